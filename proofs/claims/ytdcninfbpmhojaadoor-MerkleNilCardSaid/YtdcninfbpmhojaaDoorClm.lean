/-
  The walk over climb.
-/
import Derived.Test.YtdcninfbpmhojaaDoorAnw
namespace Go.Proofs.YtdcninfbpmhojaaDoor
open Go.RowKit
set_option linter.unusedVariables false
section
variable {P : Program} {ops : Array Oper} {Q : Exit → Act → World → Prop} {md : Region.Mode} {S : World → Prop}
theorem anyH_op (i : Nat) {d : Option Tmp} {op : Op} {fuel : Nat} {listed : Array Bool} {a : Act} {w : World}
    (h0 : Region.ready md ops listed = [i]) (hi : (ops[i]?.map fun o => (o.dst, o.op, o.guard)) = some (d, op, none))
    (h : ∀ o : Oper, o.dst = d → o.op = op → o.wp P a w (fun a w => S w ∧ wpAnyH P md ops Q S fuel (listed.setIfInBounds i true) a w) Q) : wpAnyH P md ops Q S (fuel + 1) listed a w := by
  refine wpAnyH_all h0 (by simp) ?_
  intro k hk
  simp only [List.mem_cons, List.not_mem_nil, or_false] at hk
  subst hk
  cases ho : ops[k]? with
  | none => simp [ho] at hi
  | some o =>
    simp only [ho, Option.map_some, Option.some.injEq, Prod.mk.injEq] at hi
    obtain ⟨g1, g2, g3⟩ := hi
    unfold wpOp
    simp only [ho, wanted_plain g3, if_true]
    exact .inl (h o g1 g2)
theorem anyH_two (i j : Nat) {d1 d2 : Option Tmp} {op1 op2 : Op} {fuel : Nat} {listed : Array Bool} {a : Act} {w : World}
    (h0 : Region.ready md ops listed = [i, j]) (hi : (ops[i]?.map fun o => (o.dst, o.op, o.guard)) = some (d1, op1, none)) (hj : (ops[j]?.map fun o => (o.dst, o.op, o.guard)) = some (d2, op2, none))
    (h1 : ∀ o : Oper, o.dst = d1 → o.op = op1 → o.wp P a w (fun a w => S w ∧ wpAnyH P md ops Q S fuel (listed.setIfInBounds i true) a w) Q)
    (h2 : ∀ o : Oper, o.dst = d2 → o.op = op2 → o.wp P a w (fun a w => S w ∧ wpAnyH P md ops Q S fuel (listed.setIfInBounds j true) a w) Q) : wpAnyH P md ops Q S (fuel + 1) listed a w := by
  refine wpAnyH_all h0 (by simp) ?_
  intro k hk
  simp only [List.mem_cons, List.not_mem_nil, or_false] at hk
  rcases hk with rfl | rfl
  · cases ho : ops[k]? with
    | none => simp [ho] at hi
    | some o =>
      simp only [ho, Option.map_some, Option.some.injEq, Prod.mk.injEq] at hi
      obtain ⟨g1, g2, g3⟩ := hi
      unfold wpOp
      simp only [ho, wanted_plain g3, if_true]
      exact .inl (h1 o g1 g2)
  · cases ho : ops[k]? with
    | none => simp [ho] at hj
    | some o =>
      simp only [ho, Option.map_some, Option.some.injEq, Prod.mk.injEq] at hj
      obtain ⟨g1, g2, g3⟩ := hj
      unfold wpOp
      simp only [ho, wanted_plain g3, if_true]
      exact .inl (h2 o g1 g2)
end
theorem anyH_dhead {ops : Array Oper} {Q : Exit → Act → World → Prop} {md : Region.Mode} {S : World → Prop} {T E : TypeId} (hT : DT T E) (i : Nat) {d : Nat} {x y : Operand} (b : Option Addr) (len cap k : Nat) (hk : k ≤ cap) {fuel : Nat} {listed : Array Bool} {a : Act} {w : World}
    (hi : (ops[i]?.map fun o => (o.dst, o.op, o.guard)) = some (some d, .slice T x none (some y) none, none)) (hs : Region.noSelect ops = true) (hf : Region.free md ops listed i = true) (hr : (Region.ready md ops listed).contains i = true)
    (hQ : ∀ c a w, Q (.panic c) (a.put (some d) (.slice b k cap)) w → Q (.panic c) a w) (hx : a.eval x = .slice b len cap) (hy : a.eval y = .int .i64 (k : Int)) (hS : S w)
    (h : wpAnyH Tryd.prog md ops Q S fuel (listed.setIfInBounds i true) (a.put (some d) (.slice b k cap)) w) : wpAnyH Tryd.prog md ops Q S (fuel + 1) listed a w :=
  anyH_pure i _ hi hs hf hr hQ (fun o ho W hW => by unfold execOp; simp only [ho, hx, hy, Option.map_none, Option.map_some, run_dheadAt hT W b len cap k hk, Sem.run_bind, Result.andThen_ok, Sem.run_pure]) hS h
theorem anyH_dindex {ops : Array Oper} {Q : Exit → Act → World → Prop} {md : Region.Mode} {S : World → Prop} {T E : TypeId} (hT : DT T E) (i : Nat) {d : Nat} {x y : Operand} (b o len cap k : Nat) (hk : k < len) {fuel : Nat} {listed : Array Bool} {a : Act} {w : World}
    (hi : (ops[i]?.map fun o => (o.dst, o.op, o.guard)) = some (some d, .indexAddr T x y, none)) (hs : Region.noSelect ops = true) (hf : Region.free md ops listed i = true) (hr : (Region.ready md ops listed).contains i = true)
    (hQ : ∀ c a w, Q (.panic c) (a.put (some d) (.pointer (some ⟨b, o + k * 32, none⟩))) w → Q (.panic c) a w) (hx : a.eval x = .slice (some ⟨b, o, none⟩) len cap) (hy : a.eval y = .int .i64 (k : Int)) (hS : S w)
    (h : wpAnyH Tryd.prog md ops Q S fuel (listed.setIfInBounds i true) (a.put (some d) (.pointer (some ⟨b, o + k * 32, none⟩))) w) : wpAnyH Tryd.prog md ops Q S (fuel + 1) listed a w :=
  anyH_pure i _ hi hs hf hr hQ (fun o ho W hW => by unfold execOp; simp only [ho, hx, hy, run_dindex hT W b _ len cap k hk, Sem.run_bind, Result.andThen_ok, Sem.run_pure]) hS h
/-- what a way of just the right length tells -/
def topS (n i : Nat) (leaf : List Nat) (way : Ds) : Option (List Nat) := Mk.top nodeS n i leaf way
def CliRet (n i : Nat) (leaf : List Nat) (way : Ds) (w : World) (e : Ending) (w' : World) : Prop :=
  ∃ x, D32 x ∧ e = .returned (.tuple #[.agg (cellsOf x).toArray, .bool (topS n i leaf way).isSome]) ∧ (∀ d, topS n i leaf way = some d → x = d) ∧ Below w.heap.size w w'
def CIH (n : Nat) : Prop := ∀ m, m < n → 1 ≤ m → ∀ (i : Nat) (leaf : List Nat) (a : Option Addr) (l cap : Nat) (way : Ds) (w : World), i < m → D32 leaf → DR w a l way → l ≤ cap → cap ≤ 9223372036854775807 → Tab w →
  Calls Tryd.prog 42 #[.int .i64 (m : Int), .int .i64 (i : Int), .agg (cellsOf leaf).toArray, .slice a l cap] w (CliRet m i leaf way w)
/-- the two blocks of climb: the leaf, and what is handed back -/
def C2 (w : World) (leaf x : List Nat) (W : World) : Prop := Brow W w.heap.size 30 leaf ∧ Brow W (w.heap.size + 1) 30 x ∧ Below w.heap.size w W
theorem C2.new (w : World) (leaf x : List Nat) : C2 w leaf x ((w.alloc (.cells (cellsOf leaf).toArray 30)).alloc (.cells (cellsOf x).toArray 30)) :=
  ⟨(heap_new2 _ _ _).1, (heap_new2 _ _ _).2, ((Below.refl _ _).alloc (Nat.le_refl _) _).alloc (by simp) _⟩
theorem C2.below {w W W' : World} {leaf x : List Nat} (h : C2 w leaf x W) (hb : Below W.heap.size W W') : C2 w leaf x W' := ⟨h.1.below hb h.1.lt, h.2.1.below hb h.2.1.lt, h.2.2.trans (hb.mono h.2.2.size)⟩
theorem C2.drew {w W : World} {leaf x : List Nat} (h : C2 w leaf x W) : C2 w leaf x W.drew := ⟨h.1.drew, h.2.1.drew, h.2.2.drew⟩
theorem C2.only {w W W' : World} {leaf x : List Nat} {g : Nat} (h : C2 w leaf x W) (hg : w.heap.size + 1 < g) (ho : Only g W W') : C2 w leaf x W' :=
  ⟨h.1.only ho (by omega), h.2.1.only ho (by omega), h.2.2.trans (ho.below (by omega) h.2.2.size)⟩
theorem C2.set {w W : World} {leaf x : List Nat} (h : C2 w leaf x W) (y : List Nat) (hl : y.length = x.length) : C2 w leaf y (W.setCells (w.heap.size + 1) 0 (cellsOf y)) := by
  have o : Only (w.heap.size + 1) W (W.setCells (w.heap.size + 1) 0 (cellsOf y)) := Only.setCells _ _ (Only.refl _ _)
  exact ⟨h.1.only o (by omega), h.2.1.setAll hl, h.2.2.trans (o.below (by omega) h.2.2.size)⟩
theorem C2.setRow {w W : World} {leaf x : List Nat} (h : C2 w leaf x W) (y : List Nat) : C2 w leaf y (W.setRow (w.heap.size + 1) (cellsOf y).toArray) := by
  have o : Only (w.heap.size + 1) W (W.setRow (w.heap.size + 1) (cellsOf y).toArray) := (Only.refl _ _).setRow _
  exact ⟨h.1.only o (by omega), h.2.1.setRow, h.2.2.trans (o.below (by omega) h.2.2.size)⟩
theorem results_pair {fn : Func} {P : Program} {p q : Tmp} {ty : TypeId} (h : fn.results = #[.cell p ty, .tmp q]) (tmps : Array Value) (w : World) (g : Nat) (t : TypeId) (cs : Array Value) (fr : Nat × Nat) (d : TypeDesc) (b : Value)
    (hp : tmps.getD p undef = .pointer (some ⟨g, 0, none⟩)) (hq : tmps.getD q undef = b) (hg : w.heap[g]? = some (.cells cs t fr))
    (hu : P.underlying ty = some d) (hd : (match d with | .struct _ | .array _ _ => true | _ => false) = true) (hi : (P.info? ty).map (·.size) = some cs.size) :
    (results fn tmps).run P w = .ok (.tuple #[.agg cs, b]) w := by
  have hp' : tmps[p]?.getD undef = .pointer (some ⟨g, 0, none⟩) := by simpa using hp
  have hq' : tmps[q]?.getD undef = b := by simpa using hq
  simp [results, h, hp', hq', asAddr, run_loadVar_row w g t ty cs fr d hg hu hd hi]
theorem top_one (i : Nat) (leaf : List Nat) (way : Ds) : topS 1 i leaf way = if way = [] then some leaf else none := Mk.top_less _ _ _ _ _ (by omega)
set_option maxRecDepth 100000 in
set_option maxHeartbeats 2000000 in
theorem climb_1 (i : Nat) (leaf : List Nat) (a : Option Addr) (l cap : Nat) (way : Ds) (w : World) (hl : D32 leaf) (hr : DR w a l way) (hlc : l ≤ cap) :
    Calls Tryd.prog 42 #[.int .i64 1, .int .i64 (i : Int), .agg (cellsOf leaf).toArray, .slice a l cap] w (CliRet 1 i leaf way w) := by
  have HL := Lib.hid hl
  have HI := Lib.hid (info32 dtA hl)
  have HZ := Lib.hid (zsize hl)
  have HW := Lib.hid (show (topS 1 i leaf way).isSome = decide (l = 0) ∧ ∀ d, topS 1 i leaf way = some d → leaf = d from by
    rw [top_one]
    by_cases h0 : l = 0
    · subst h0
      rw [hr.zero, if_pos rfl]
      exact ⟨rfl, fun d hd => Option.some.inj hd⟩
    · rw [if_neg (fun h => h0 (by rw [← hr.1, h]; rfl))]
      exact ⟨by simp [h0], fun d hd => by cases hd⟩)
  obtain ⟨b, hb⟩ : ∃ b, b = decide (l = 0) := ⟨_, rfl⟩
  have hb1 : ((l : Int) == 0) = b := by rw [hb]; by_cases h : l = 0 <;> simp [h]
  have HB := Lib.hid hb
  clear hl hr hb
  go_enter Tryd.func42, Tryd.ntmps42
  go_upto_region 1 with fail
  refine gen_code (F := C2 w leaf zs32) (C2.new w leaf zs32) ?_
  intro wA hc
  have HC := Lib.hid hc
  clear hc
  go_wp2_with (first | (refine wpList_load_row (by rfl) 30 _ (by rfl) w.heap.size (by rfl) _ (cellsOf leaf).toArray (0, 0) _ HC.out.1 Tryd.underlying30 (by rfl) HI.out ?_) | (refine wpList_store_row (by rfl) 30 _ _ (by rfl) (w.heap.size + 1) (cellsOf leaf).toArray (by rfl) (by rfl) 30 (cellsOf zs32).toArray HC.out.2.1 HI.out HZ.out (cellsOf_all _) ?_))
  refine bodyPost_ret (results_pair (by rfl) _ _ (w.heap.size + 1) _ (cellsOf leaf).toArray (0, 0) _ (.bool b) (by rfl) (by rfl) (HC.out.setRow leaf).2.1 Tryd.underlying30 (by rfl) HI.out) ?_ ?_
  · rfl
  · exact ⟨leaf, HL.out, by rw [HW.out.1, HB.out], HW.out.2, (HC.out.setRow leaf).2.2⟩
def CS (w : World) (leaf : List Nat) (a : Option Addr) (l : Nat) (way : Ds) (W : World) : Prop := C2 w leaf zs32 W ∧ DR W a (l + 1) way
theorem CS.step {w W W' : World} {leaf : List Nat} {a : Option Addr} {l : Nat} {way : Ds} (h : CS w leaf a l way W) (hb : Below W.heap.size W W') : CS w leaf a l way W' := ⟨h.1.below hb, h.2.below hb⟩
def C9 (w : World) (leaf : List Nat) (b o l : Nat) (way : Ds) (g : Nat) (x : List Nat) (W : World) : Prop := (∃ y, y.length = 32 ∧ C2 w leaf y W) ∧ DR W (some ⟨b, o, none⟩) (l + 1) way ∧ Brow W g 30 x
theorem C9.step {w W W' : World} {leaf : List Nat} {b o l : Nat} {way : Ds} {g : Nat} {x : List Nat} (h : C9 w leaf b o l way g x W) (hb : Below W.heap.size W W') : C9 w leaf b o l way g x W' := by
  obtain ⟨⟨y, hy, h1⟩, h2, h3⟩ := h
  exact ⟨⟨y, hy, h1.below hb⟩, h2.below hb, h3.below hb h3.lt⟩
theorem blk_lt {w : World} {a : Option Addr} {n : Nat} {ds : Ds} (h : DR w a n ds) (g : Nat) (hg : w.heap.size ≤ g) : 0 < 32 * n → blkOf a ≠ some g := h.2.2.blk g hg
theorem DR.only {w w0 w' : World} {g : Nat} {a : Option Addr} {n : Nat} {ds : Ds} (h : DR w a n ds) (h0 : DR w0 a n ds) (hg : w0.heap.size ≤ g) (ho : Only g w w') : DR w' a n ds := ⟨h.1, h.2.1, ho.rdo h0.2.2 h.2.2 hg⟩
theorem way_snoc {way : Ds} {l : Nat} (h : way.length = l + 1) : way = way.take l ++ [way.getD l []] := by
  have := List.take_succ_eq_append_getElem (l := way) (i := l) (by omega)
  rw [List.take_of_length_le (by omega)] at this
  rw [List.getD_eq_getElem?_getD, List.getElem?_eq_getElem (by omega)]
  exact this
theorem cli_left {n k i l : Nat} {leaf x y : List Nat} {way : Ds} (h2 : 2 ≤ n) (hk : Mk.half n = k) (hik : i < k) (hl : way.length = l + 1) (hy : y = way.getD l []) (hx : ∀ d, topS k i leaf (way.take l) = some d → x = d) :
    (topS n i leaf way).isSome = (topS k i leaf (way.take l)).isSome ∧ ∀ d, topS n i leaf way = some d → nodeS x y = d := by
  have e : topS n i leaf way = (topS k i leaf (way.take l)).map fun d => nodeS d y := by
    conv => lhs; rw [way_snoc hl]
    rw [hy, ← hk]; exact Mk.top_left _ _ _ _ _ _ h2 (by rw [hk]; exact hik)
  rw [e]
  refine ⟨by simp, fun d hd => ?_⟩
  obtain ⟨d', h1, h3⟩ := Option.map_eq_some_iff.1 hd
  rw [hx d' h1, h3]
theorem cli_right {n k i l : Nat} {leaf x y : List Nat} {way : Ds} (h2 : 2 ≤ n) (hk : Mk.half n = k) (hik : ¬ i < k) (hl : way.length = l + 1) (hy : y = way.getD l []) (hx : ∀ d, topS (n - k) (i - k) leaf (way.take l) = some d → x = d) :
    (topS n i leaf way).isSome = (topS (n - k) (i - k) leaf (way.take l)).isSome ∧ ∀ d, topS n i leaf way = some d → nodeS y x = d := by
  have e : topS n i leaf way = (topS (n - k) (i - k) leaf (way.take l)).map fun d => nodeS y d := by
    conv => lhs; rw [way_snoc hl]
    rw [hy, ← hk]; exact Mk.top_right _ _ _ _ _ _ h2 (by rw [hk]; exact hik)
  rw [e]
  refine ⟨by simp, fun d hd => ?_⟩
  obtain ⟨d', h1, h3⟩ := Option.map_eq_some_iff.1 hd
  rw [hx d' h1, h3]
set_option maxRecDepth 100000 in
set_option maxHeartbeats 2000000 in
theorem climb_0 (n i : Nat) (leaf : List Nat) (a : Option Addr) (cap : Nat) (w : World) (h2 : 2 ≤ n) (hl : D32 leaf) :
    Calls Tryd.prog 42 #[.int .i64 (n : Int), .int .i64 (i : Int), .agg (cellsOf leaf).toArray, .slice a 0 cap] w (CliRet n i leaf [] w) := by
  have HL := Lib.hid hl
  have HT := Lib.hid (show topS n i leaf [] = none from Mk.top_nil _ _ _ _ h2)
  have hz : D32 zs32 := ⟨zs32_len, by decide⟩
  have HI := Lib.hid (info32 dtA hz)
  have q0 : ¬ (n : Int) = 1 := by omega
  clear hl hz
  go_enter Tryd.func42, Tryd.ntmps42
  go_upto_region 1 with fail
  refine gen_code (F := C2 w leaf zs32) (C2.new w leaf zs32) ?_
  intro wA hc
  have HC := Lib.hid hc
  clear hc
  go_wp2_with (first | (refine wpList_store_row (by rfl) 30 _ _ (by rfl) (w.heap.size + 1) (cellsOf zs32).toArray (by rfl) (by rfl) 30 (cellsOf zs32).toArray HC.out.2.1 HI.out (by rfl) (cellsOf_all _) ?_))
  refine bodyPost_ret (results_pair (by rfl) _ _ (w.heap.size + 1) _ (cellsOf zs32).toArray (0, 0) _ (.bool false) (by rfl) (by rfl) (HC.out.setRow zs32).2.1 Tryd.underlying30 (by rfl) HI.out) ?_ ?_
  · rfl
  · exact ⟨zs32, ⟨zs32_len, by decide⟩, by rw [HT.out]; rfl, (fun d hd => by rw [HT.out] at hd; cases hd), (HC.out.setRow zs32).2.2⟩
set_option maxRecDepth 100000 in
set_option maxHeartbeats 4000000 in
theorem climb_l (n k i : Nat) (ih : CIH n) (leaf : List Nat) (a : Option Addr) (l cap : Nat) (way : Ds) (w : World) (h2 : 2 ≤ n) (hn : n ≤ 9223372036854775807) (hi : i < n) (hk : Mk.half n = k) (hik : i < k) (hl : D32 leaf) (hr : DR w a (l + 1) way) (hlc : l + 1 ≤ cap) (hcm : cap ≤ 9223372036854775807) (ht : Tab w) :
    Calls Tryd.prog 42 #[.int .i64 (n : Int), .int .i64 (i : Int), .agg (cellsOf leaf).toArray, .slice a (l + 1) cap] w (CliRet n i leaf way w) := by
  have hk0 : 0 < k := by rw [← hk]; exact Mk.half_pos n
  have hkn : k < n := by rw [← hk]; exact Mk.half_lt n h2
  have HH := Lib.hid (fun W => split_c n W h2 (by omega))
  rw [hk] at HH
  have q0 : ¬ (n : Int) = 1 := by omega
  have q2 : (i : Int) < (k : Int) := by omega
  obtain ⟨b, o, rfl, hblk, _⟩ := hr.at l (by omega)
  obtain ⟨y, hy⟩ : ∃ y, y = way.getD l [] := ⟨_, rfl⟩
  have HY := Lib.hid (show D32 y from by rw [hy]; exact D32.get hr.2.1 l (by rw [hr.1]; omega))
  have HYE := Lib.hid hy
  have HT := Lib.hid ht
  have hpos := ht.pos
  have HR := Lib.hid hr
  have HLF := Lib.hid hl
  obtain ⟨c, hc⟩ : ∃ c, c = (topS k i leaf (way.take l)).isSome := ⟨_, rfl⟩
  have HIN := Lib.hid (show ∀ W, DR W (some ⟨b, o, none⟩) (l + 1) way → Tab W → Calls Tryd.prog 42 #[.int .i64 (k : Int), .int .i64 (i : Int), .agg (cellsOf leaf).toArray, .slice (some ⟨b, o, none⟩) l cap] W (fun e w' => ∃ x, D32 x ∧ e = .returned (.tuple #[.agg (cellsOf x).toArray, .bool c]) ∧ (∀ d, topS k i leaf (way.take l) = some d → x = d) ∧ Below W.heap.size W w') from fun W hW hT => by rw [hc]; exact ih k (by omega) (by omega) i leaf (some ⟨b, o, none⟩) l cap _ W (by omega) hl (hW.take l (by omega)) (by omega) hcm hT)
  have HFIN := Lib.hid (show ∀ x, (∀ d, topS k i leaf (way.take l) = some d → x = d) → (topS n i leaf way).isSome = c ∧ ∀ d, topS n i leaf way = some d → nodeS x y = d from fun x hx => by rw [hc]; exact cli_left h2 hk hik hr.1 hy hx)
  have HGZ := Lib.hid (info32 dtA HLF.out)
  clear ih hc hy hl hr ht hk
  go_enter Tryd.func42, Tryd.ntmps42
  go_upto_region 1 with fail
  refine gen_code (F := C2 w leaf zs32) (C2.new w leaf zs32) ?_
  intro wA hc
  have HC := Lib.hid hc.drew
  clear hc
  go_upto_region 8 with (first | (go_at_call 48; refine (HH.out _).mono ?_; rintro e wb ⟨rfl, rfl⟩))
  (try dsimp only [Act.put, List.setIfInBounds_toArray, List.set_cons_zero, List.set_cons_succ])
  have HS := Lib.hid (show CS w leaf (some ⟨b, o, none⟩) l way wA.drew from ⟨HC.out, HR.out.below HC.out.2.2⟩)
  have HLL := Lib.hid (fun W (hW : CS w leaf (some ⟨b, o, none⟩) l way W) => run_dload dtA W w.heap.size 0 leaf HLF.out hW.1.1.range)
  refine anyH_begin (S := CS w leaf (some ⟨b, o, none⟩) l way) (by kernel_rfl) ?_
  refine anyH_pureG 0 (d := 35) (op := .move (.tmp 11)) (gd := none) (.int .i64 (k : Int)) (by rfl) (fun o ho => wanted_plain ho _) (by kernel_rfl) (by kernel_rfl) (by kernel_rfl) (fun _ _ _ h => h) (fun o ho W hW => by unfold execOp; simp only [ho]; go_simp) HS.out ?_
  simp only [Act.put, List.setIfInBounds_toArray, List.set_cons_zero, List.set_cons_succ]
  refine anyH_pureG 1 (d := 36) (op := .move (.tmp 1)) (gd := none) (.int .i64 (i : Int)) (by rfl) (fun o ho => wanted_plain ho _) (by kernel_rfl) (by kernel_rfl) (by kernel_rfl) (fun _ _ _ h => h) (fun o ho W hW => by unfold execOp; simp only [ho]; go_simp) HS.out ?_
  simp only [Act.put, List.setIfInBounds_toArray, List.set_cons_zero, List.set_cons_succ]
  refine anyH_loadG 2 (d := 37) (ty := 30) (x := (.tmp 6)) (gd := none) (p := .pointer (some ⟨w.heap.size, 0, none⟩)) (.agg (cellsOf leaf).toArray) (by rfl) (fun o ho => wanted_plain ho _) (by kernel_rfl) (by kernel_rfl) (by kernel_rfl) (fun _ _ _ h => h) (by rfl) HLL.out HS.out ?_
  simp only [Act.put, List.setIfInBounds_toArray, List.set_cons_zero, List.set_cons_succ]
  refine anyH_pureG 3 (d := 38) (op := .move (.tmp 3)) (gd := none) (.slice (some ⟨b, o, none⟩) (l + 1) cap) (by rfl) (fun o ho => wanted_plain ho _) (by kernel_rfl) (by kernel_rfl) (by kernel_rfl) (fun _ _ _ h => h) (fun o ho W hW => by unfold execOp; simp only [ho]; go_simp) HS.out ?_
  simp only [Act.put, List.setIfInBounds_toArray, List.set_cons_zero, List.set_cons_succ]
  refine anyH_pureG 4 (d := 39) (op := .move (.tmp 10)) (gd := none) (.int .i64 (l : Int)) (by rfl) (fun o ho => wanted_plain ho _) (by kernel_rfl) (by kernel_rfl) (by kernel_rfl) (fun _ _ _ h => h) (fun o ho W hW => by unfold execOp; simp only [ho]; go_simp) HS.out ?_
  simp only [Act.put, List.setIfInBounds_toArray, List.set_cons_zero, List.set_cons_succ]
  refine anyH_dhead dtA 5 (d := 40) (x := .tmp 38) (y := .tmp 39) (some ⟨b, o, none⟩) (l + 1) cap l (by omega) (by rfl) (by kernel_rfl) (by kernel_rfl) (by kernel_rfl) (fun _ _ _ h => h) (by rfl) (by rfl) HS.out ?_
  simp only [Act.put, List.setIfInBounds_toArray, List.set_cons_zero, List.set_cons_succ]
  refine anyH_two 6 10 (d1 := some 41) (op1 := .call { callee := .value (.func 42), args := #[(.tmp 35), (.tmp 36), (.tmp 37), (.tmp 40)], argTypes := #[3, 3, 30, 31] }) (d2 := some 12) (op2 := .alloc 30) (by kernel_rfl) (by rfl) (by rfl) ?_ ?_
  · intro o0 hod hoo
    refine wp_call_fn (R := _) hoo (vs := #[.int .i64 (k : Int), .int .i64 (i : Int), .agg (cellsOf leaf).toArray, .slice (some ⟨b, o, none⟩) l cap]) (by go_simp) (by go_simp) (HIN.out _ HS.out.2 (HT.out.below HS.out.1.2.2 hpos)) ?_
    rintro e w1 ⟨x, hx, rfl, hxe, hb1⟩
    refine ⟨_, rfl, HS.out.step hb1, ?_⟩
    rw [hod]
    have HS := Lib.hid (HS.out.step hb1)
    have HX := Lib.hid hx
    have HXE := Lib.hid hxe
    clear hod hoo hx hxe hb1
    simp only [Act.put, List.setIfInBounds_toArray, List.set_cons_zero, List.set_cons_succ]
    refine anyH_pureG 7 (d := 34) (op := .move (.tmp 41)) (gd := none) (.tuple #[.agg (cellsOf x).toArray, .bool c]) (by rfl) (fun o ho => wanted_plain ho _) (by kernel_rfl) (by kernel_rfl) (by kernel_rfl) (fun _ _ _ h => h) (fun o ho W hW => by unfold execOp; simp only [ho]; go_simp) HS.out ?_
    simp only [Act.put, List.setIfInBounds_toArray, List.set_cons_zero, List.set_cons_succ]
    refine anyH_pureG 8 (d := 42) (op := .extract (.tmp 34) 0) (gd := none) (.agg (cellsOf x).toArray) (by rfl) (fun o ho => wanted_plain ho _) (by kernel_rfl) (by kernel_rfl) (by kernel_rfl) (fun _ _ _ h => h) (fun o ho W hW => by unfold execOp; simp only [ho]; go_simp) HS.out ?_
    simp only [Act.put, List.setIfInBounds_toArray, List.set_cons_zero, List.set_cons_succ]
    refine anyH_pureG 9 (d := 43) (op := .extract (.tmp 34) 1) (gd := none) (.bool c) (by rfl) (fun o ho => wanted_plain ho _) (by kernel_rfl) (by kernel_rfl) (by kernel_rfl) (fun _ _ _ h => h) (fun o ho W hW => by unfold execOp; simp only [ho]; go_simp) HS.out ?_
    simp only [Act.put, List.setIfInBounds_toArray, List.set_cons_zero, List.set_cons_succ]
    refine anyH_op 10 (d := some 12) (op := .alloc 30) (by kernel_rfl) (by rfl) ?_
    intro o0 hod hoo
    refine wp_alloc_dig hoo ?_
    have HB := Lib.hid (show Below w1.heap.size w1 (w1.alloc (.cells (cellsOf zs32).toArray 30)) from (Below.refl _ _).alloc (Nat.le_refl _) _)
    have HZ := Lib.hid (Brow.new w1 30 zs32)
    have hg1 := HS.out.1.2.1.lt
    have hg2 := HS.out.1.2.2.size
    refine ⟨HS.out.step HB.out, ?_⟩
    have HS := Lib.hid (HS.out.step HB.out)
    rw [hod]
    clear hod hoo HB
    simp only [Act.put, List.setIfInBounds_toArray, List.set_cons_zero, List.set_cons_succ]
    obtain ⟨g, hg⟩ : ∃ g, g = w1.heap.size := ⟨_, rfl⟩
    rw [← hg] at HZ ⊢
    have hgw : w.heap.size + 1 < g := by omega
    have HGI := Lib.hid (info32 dtA HX.out)
    have HTH := Lib.hid (HZ.out.there _ (show (cellsOf x).toArray.size = zs32.length from by rw [cellsOf_size, HX.out.1, zs32_len]))
    refine anyH_op 11 (d := none) (op := .store 30 (.tmp 12) (.tmp 42)) (by kernel_rfl) (by rfl) ?_
    intro o1 hod hoo
    refine wp_store_mid 30 (.tmp 12) (.tmp 42) hoo g 0 (cellsOf x).toArray (by rfl) (by rfl) HTH.out HGI.out (cellsOf_all _) ?_
    rw [hod, List.toList_toArray]
    have HO := Lib.hid (Only.setCells (cellsOf x) 0 (Only.refl g (w1.alloc (.cells (cellsOf zs32).toArray 30))))
    have HZ2 := Lib.hid (HZ.out.setAll (ys := x) (by rw [HX.out.1, zs32_len]))
    have HS2 := Lib.hid (show CS w leaf (some ⟨b, o, none⟩) l way _ from ⟨HS.out.1.only hgw HO.out, HS.out.2.only HR.out (by omega) HO.out⟩)
    refine ⟨HS2.out, ?_⟩
    clear HS HZ HTH HO hod hoo
    simp only [Act.put]
    refine anyH_pureG 12 (d := 13) (op := .assign (.tmp 43)) (gd := none) (.bool c) (by rfl) (fun o ho => wanted_plain ho _) (by kernel_rfl) (by kernel_rfl) (by kernel_rfl) (fun _ _ _ h => h) (fun o ho W hW => by unfold execOp; simp only [ho]; go_simp) HS2.out ?_
    simp only [Act.put, List.setIfInBounds_toArray, List.set_cons_zero, List.set_cons_succ]
    refine wpAnyH_done (by kernel_rfl) ?_ _
    refine gen_exit (F := fun W => CS w leaf (some ⟨b, o, none⟩) l way W ∧ Brow W g 30 x) ⟨HS2.out, HZ2.out⟩ ?_
    rintro wE ⟨hcs, hz⟩
    have HC := Lib.hid hcs.1.drew
    have HS := Lib.hid (show C9 w leaf b o l way g x wE.drew from ⟨⟨zs32, zs32_len, hcs.1.drew⟩, hcs.2, hz.drew⟩)
    clear hcs hz HS2 HZ2
    go_upto_region 9 with fail
    (try dsimp only [Act.put, List.setIfInBounds_toArray, List.set_cons_zero, List.set_cons_succ])
    have HLX := Lib.hid (fun W (hW : C9 w leaf b o l way g x W) => run_dload dtA W g 0 x HX.out hW.2.2.range)
    have HLY := Lib.hid (fun W (hW : C9 w leaf b o l way g x W) => run_dload dtA W b (o + l * 32) y HY.out (by
      obtain ⟨b', o', h1, _, h3⟩ := hW.2.1.at l (by omega)
      simp only [Option.some.injEq, Addr.mk.injEq, and_true] at h1
      obtain ⟨rfl, rfl⟩ := h1
      rw [HYE.out]
      exact h3))
    obtain ⟨N, hN⟩ : ∃ N, N = nodeS x y := ⟨_, rfl⟩
    have HN := Lib.hid (show D32 N from by rw [hN]; exact d32_sum _)
    have HNE := Lib.hid hN
    have HNODE := Lib.hid (show ∀ W, C9 w leaf b o l way g x W → Calls Tryd.prog 37 #[.agg (cellsOf x).toArray, .agg (cellsOf y).toArray] W (DigRet N W) from fun W hW => by
      obtain ⟨⟨z, hz, h1⟩, _, _⟩ := hW
      rw [hN]; exact node_c x y W HX.out HY.out (HT.out.below h1.2.2 hpos))
    clear hN
    refine anyH_begin (S := C9 w leaf b o l way g x) (by kernel_rfl) ?_
    refine anyH_loadG 0 (d := 44) (ty := 30) (x := (.tmp 12)) (gd := none) (p := .pointer (some ⟨g, 0, none⟩)) (.agg (cellsOf x).toArray) (by rfl) (fun o ho => wanted_plain ho _) (by kernel_rfl) (by kernel_rfl) (by kernel_rfl) (fun _ _ _ h => h) (by rfl) HLX.out HS.out ?_
    simp only [Act.put, List.setIfInBounds_toArray, List.set_cons_zero, List.set_cons_succ]
    refine anyH_pureG 1 (d := 45) (op := .move (.tmp 3)) (gd := none) (.slice (some ⟨b, o, none⟩) (l + 1) cap) (by rfl) (fun o ho => wanted_plain ho _) (by kernel_rfl) (by kernel_rfl) (by kernel_rfl) (fun _ _ _ h => h) (fun o ho W hW => by unfold execOp; simp only [ho]; go_simp) HS.out ?_
    simp only [Act.put, List.setIfInBounds_toArray, List.set_cons_zero, List.set_cons_succ]
    refine anyH_pureG 2 (d := 46) (op := .move (.tmp 10)) (gd := none) (.int .i64 (l : Int)) (by rfl) (fun o ho => wanted_plain ho _) (by kernel_rfl) (by kernel_rfl) (by kernel_rfl) (fun _ _ _ h => h) (fun o ho W hW => by unfold execOp; simp only [ho]; go_simp) HS.out ?_
    simp only [Act.put, List.setIfInBounds_toArray, List.set_cons_zero, List.set_cons_succ]
    refine anyH_dindex dtA 3 (d := 47) (x := .tmp 45) (y := .tmp 46) b o (l + 1) cap l (by omega) (by rfl) (by kernel_rfl) (by kernel_rfl) (by kernel_rfl) (fun _ _ _ h => h) (by rfl) (by rfl) HS.out ?_
    simp only [Act.put, List.setIfInBounds_toArray, List.set_cons_zero, List.set_cons_succ]
    refine anyH_loadG 4 (d := 48) (ty := 30) (x := (.tmp 47)) (gd := none) (p := .pointer (some ⟨b, o + l * 32, none⟩)) (.agg (cellsOf y).toArray) (by rfl) (fun o ho => wanted_plain ho _) (by kernel_rfl) (by kernel_rfl) (by kernel_rfl) (fun _ _ _ h => h) (by rfl) HLY.out HS.out ?_
    simp only [Act.put, List.setIfInBounds_toArray, List.set_cons_zero, List.set_cons_succ]
    refine anyH_pureG 6 (d := 50) (op := .move (.tmp 13)) (gd := none) (.bool c) (by rfl) (fun o ho => wanted_plain ho _) (by kernel_rfl) (by kernel_rfl) (by kernel_rfl) (fun _ _ _ h => h) (fun o ho W hW => by unfold execOp; simp only [ho]; go_simp) HS.out ?_
    simp only [Act.put, List.setIfInBounds_toArray, List.set_cons_zero, List.set_cons_succ]
    refine anyH_callG 5 (d := some 49) (f := 37) (xs := #[(.tmp 44), (.tmp 48)]) (ts := #[30, 30]) (gd := none) (vs := #[.agg (cellsOf x).toArray, .agg (cellsOf y).toArray]) (by kernel_rfl) (by rfl) (fun o ho => wanted_plain ho _) (by go_simp) (by go_simp) (HNODE.out _ HS.out) ?_
    rintro e9 w9 ⟨rfl, hb9⟩
    refine ⟨_, rfl, HS.out.step hb9, fun hS9 => ?_⟩
    have HS := Lib.hid hS9
    have HC := Lib.hid (HC.out.below hb9)
    clear hS9 hb9
    simp only [Act.put, List.setIfInBounds_toArray, List.set_cons_zero, List.set_cons_succ]
    have HNI := Lib.hid (info32 dtA HN.out)
    have HTH := Lib.hid (HC.out.2.1.there _ (show (cellsOf N).toArray.size = zs32.length from by rw [cellsOf_size, HN.out.1, zs32_len]))
    refine anyH_op 7 (d := none) (op := .store 30 (.tmp 8) (.tmp 49)) (by kernel_rfl) (by rfl) ?_
    intro o1 hod hoo
    refine wp_store_mid 30 (.tmp 8) (.tmp 49) hoo (w.heap.size + 1) 0 (cellsOf N).toArray (by rfl) (by rfl) HTH.out HNI.out (cellsOf_all _) ?_
    rw [hod, List.toList_toArray]
    have HO := Lib.hid (Only.setCells (cellsOf N) 0 (Only.refl (w.heap.size + 1) w9))
    have HC2 := Lib.hid (HC.out.set N (by rw [HN.out.1, zs32_len]))
    have HS2 := Lib.hid (show C9 w leaf b o l way g x _ from ⟨⟨N, HN.out.1, HC2.out⟩, HS.out.2.1.only HR.out (by omega) HO.out, HS.out.2.2.only HO.out (by omega)⟩)
    refine ⟨HS2.out, ?_⟩
    clear HS HTH HO hod hoo HC
    simp only [Act.put]
    refine anyH_pureG 8 (d := 9) (op := .assign (.tmp 50)) (gd := none) (.bool c) (by rfl) (fun o ho => wanted_plain ho _) (by kernel_rfl) (by kernel_rfl) (by kernel_rfl) (fun _ _ _ h => h) (fun o ho W hW => by unfold execOp; simp only [ho]; go_simp) HS2.out ?_
    simp only [Act.put, List.setIfInBounds_toArray, List.set_cons_zero, List.set_cons_succ]
    refine wpAnyH_done (by kernel_rfl) ?_ _
    refine gen_exit (F := C2 w leaf N) HC2.out ?_
    intro wF hcf
    have HF := Lib.hid hcf
    clear hcf HC2 HS2
    go_wp2
    refine bodyPost_ret (results_pair (by rfl) _ _ (w.heap.size + 1) _ (cellsOf N).toArray (0, 0) _ (.bool c) (by rfl) (by rfl) HF.out.2.1 Tryd.underlying30 (by rfl) HNI.out) ?_ ?_
    · rfl
    · exact ⟨N, HN.out, by rw [(HFIN.out x HXE.out).1], by rw [HNE.out]; exact (HFIN.out x HXE.out).2, HF.out.2.2⟩
  · intro o0 hod hoo
    refine wp_alloc_dig hoo ?_
    have HB := Lib.hid (show Below wA.drew.heap.size wA.drew (wA.drew.alloc (.cells (cellsOf zs32).toArray 30)) from (Below.refl _ _).alloc (Nat.le_refl _) _)
    have HZ := Lib.hid (Brow.new wA.drew 30 zs32)
    have hg1 := HS.out.1.2.1.lt
    have hg2 := HS.out.1.2.2.size
    refine ⟨HS.out.step HB.out, ?_⟩
    have HS := Lib.hid (HS.out.step HB.out)
    rw [hod]
    clear hod hoo HB
    simp only [Act.put, List.setIfInBounds_toArray, List.set_cons_zero, List.set_cons_succ]
    refine anyH_op 6 (d := some 41) (op := .call { callee := .value (.func 42), args := #[(.tmp 35), (.tmp 36), (.tmp 37), (.tmp 40)], argTypes := #[3, 3, 30, 31] }) (by kernel_rfl) (by rfl) ?_
    intro o0 hod hoo
    refine wp_call_fn (R := _) hoo (vs := #[.int .i64 (k : Int), .int .i64 (i : Int), .agg (cellsOf leaf).toArray, .slice (some ⟨b, o, none⟩) l cap]) (by go_simp) (by go_simp) (HIN.out _ HS.out.2 (HT.out.below HS.out.1.2.2 hpos)) ?_
    rintro e w1 ⟨x, hx, rfl, hxe, hb1⟩
    refine ⟨_, rfl, HS.out.step hb1, ?_⟩
    rw [hod]
    have HZ := Lib.hid (HZ.out.below hb1 HZ.out.lt)
    have HS := Lib.hid (HS.out.step hb1)
    have HX := Lib.hid hx
    have HXE := Lib.hid hxe
    clear hod hoo hx hxe hb1
    simp only [Act.put, List.setIfInBounds_toArray, List.set_cons_zero, List.set_cons_succ]
    refine anyH_pureG 7 (d := 34) (op := .move (.tmp 41)) (gd := none) (.tuple #[.agg (cellsOf x).toArray, .bool c]) (by rfl) (fun o ho => wanted_plain ho _) (by kernel_rfl) (by kernel_rfl) (by kernel_rfl) (fun _ _ _ h => h) (fun o ho W hW => by unfold execOp; simp only [ho]; go_simp) HS.out ?_
    simp only [Act.put, List.setIfInBounds_toArray, List.set_cons_zero, List.set_cons_succ]
    refine anyH_pureG 8 (d := 42) (op := .extract (.tmp 34) 0) (gd := none) (.agg (cellsOf x).toArray) (by rfl) (fun o ho => wanted_plain ho _) (by kernel_rfl) (by kernel_rfl) (by kernel_rfl) (fun _ _ _ h => h) (fun o ho W hW => by unfold execOp; simp only [ho]; go_simp) HS.out ?_
    simp only [Act.put, List.setIfInBounds_toArray, List.set_cons_zero, List.set_cons_succ]
    refine anyH_pureG 9 (d := 43) (op := .extract (.tmp 34) 1) (gd := none) (.bool c) (by rfl) (fun o ho => wanted_plain ho _) (by kernel_rfl) (by kernel_rfl) (by kernel_rfl) (fun _ _ _ h => h) (fun o ho W hW => by unfold execOp; simp only [ho]; go_simp) HS.out ?_
    simp only [Act.put, List.setIfInBounds_toArray, List.set_cons_zero, List.set_cons_succ]
    obtain ⟨g, hg⟩ : ∃ g, g = wA.drew.heap.size := ⟨_, rfl⟩
    rw [← hg] at HZ ⊢
    have hgw : w.heap.size + 1 < g := by omega
    have HGI := Lib.hid (info32 dtA HX.out)
    have HTH := Lib.hid (HZ.out.there _ (show (cellsOf x).toArray.size = zs32.length from by rw [cellsOf_size, HX.out.1, zs32_len]))
    refine anyH_op 11 (d := none) (op := .store 30 (.tmp 12) (.tmp 42)) (by kernel_rfl) (by rfl) ?_
    intro o1 hod hoo
    refine wp_store_mid 30 (.tmp 12) (.tmp 42) hoo g 0 (cellsOf x).toArray (by rfl) (by rfl) HTH.out HGI.out (cellsOf_all _) ?_
    rw [hod, List.toList_toArray]
    have HO := Lib.hid (Only.setCells (cellsOf x) 0 (Only.refl g w1))
    have HZ2 := Lib.hid (HZ.out.setAll (ys := x) (by rw [HX.out.1, zs32_len]))
    have HS2 := Lib.hid (show CS w leaf (some ⟨b, o, none⟩) l way _ from ⟨HS.out.1.only hgw HO.out, HS.out.2.only HR.out (by omega) HO.out⟩)
    refine ⟨HS2.out, ?_⟩
    clear HS HZ HTH HO hod hoo
    simp only [Act.put]
    refine anyH_pureG 12 (d := 13) (op := .assign (.tmp 43)) (gd := none) (.bool c) (by rfl) (fun o ho => wanted_plain ho _) (by kernel_rfl) (by kernel_rfl) (by kernel_rfl) (fun _ _ _ h => h) (fun o ho W hW => by unfold execOp; simp only [ho]; go_simp) HS2.out ?_
    simp only [Act.put, List.setIfInBounds_toArray, List.set_cons_zero, List.set_cons_succ]
    refine wpAnyH_done (by kernel_rfl) ?_ _
    refine gen_exit (F := fun W => CS w leaf (some ⟨b, o, none⟩) l way W ∧ Brow W g 30 x) ⟨HS2.out, HZ2.out⟩ ?_
    rintro wE ⟨hcs, hz⟩
    have HC := Lib.hid hcs.1.drew
    have HS := Lib.hid (show C9 w leaf b o l way g x wE.drew from ⟨⟨zs32, zs32_len, hcs.1.drew⟩, hcs.2, hz.drew⟩)
    clear hcs hz HS2 HZ2
    go_upto_region 9 with fail
    (try dsimp only [Act.put, List.setIfInBounds_toArray, List.set_cons_zero, List.set_cons_succ])
    have HLX := Lib.hid (fun W (hW : C9 w leaf b o l way g x W) => run_dload dtA W g 0 x HX.out hW.2.2.range)
    have HLY := Lib.hid (fun W (hW : C9 w leaf b o l way g x W) => run_dload dtA W b (o + l * 32) y HY.out (by
      obtain ⟨b', o', h1, _, h3⟩ := hW.2.1.at l (by omega)
      simp only [Option.some.injEq, Addr.mk.injEq, and_true] at h1
      obtain ⟨rfl, rfl⟩ := h1
      rw [HYE.out]
      exact h3))
    obtain ⟨N, hN⟩ : ∃ N, N = nodeS x y := ⟨_, rfl⟩
    have HN := Lib.hid (show D32 N from by rw [hN]; exact d32_sum _)
    have HNE := Lib.hid hN
    have HNODE := Lib.hid (show ∀ W, C9 w leaf b o l way g x W → Calls Tryd.prog 37 #[.agg (cellsOf x).toArray, .agg (cellsOf y).toArray] W (DigRet N W) from fun W hW => by
      obtain ⟨⟨z, hz, h1⟩, _, _⟩ := hW
      rw [hN]; exact node_c x y W HX.out HY.out (HT.out.below h1.2.2 hpos))
    clear hN
    refine anyH_begin (S := C9 w leaf b o l way g x) (by kernel_rfl) ?_
    refine anyH_loadG 0 (d := 44) (ty := 30) (x := (.tmp 12)) (gd := none) (p := .pointer (some ⟨g, 0, none⟩)) (.agg (cellsOf x).toArray) (by rfl) (fun o ho => wanted_plain ho _) (by kernel_rfl) (by kernel_rfl) (by kernel_rfl) (fun _ _ _ h => h) (by rfl) HLX.out HS.out ?_
    simp only [Act.put, List.setIfInBounds_toArray, List.set_cons_zero, List.set_cons_succ]
    refine anyH_pureG 1 (d := 45) (op := .move (.tmp 3)) (gd := none) (.slice (some ⟨b, o, none⟩) (l + 1) cap) (by rfl) (fun o ho => wanted_plain ho _) (by kernel_rfl) (by kernel_rfl) (by kernel_rfl) (fun _ _ _ h => h) (fun o ho W hW => by unfold execOp; simp only [ho]; go_simp) HS.out ?_
    simp only [Act.put, List.setIfInBounds_toArray, List.set_cons_zero, List.set_cons_succ]
    refine anyH_pureG 2 (d := 46) (op := .move (.tmp 10)) (gd := none) (.int .i64 (l : Int)) (by rfl) (fun o ho => wanted_plain ho _) (by kernel_rfl) (by kernel_rfl) (by kernel_rfl) (fun _ _ _ h => h) (fun o ho W hW => by unfold execOp; simp only [ho]; go_simp) HS.out ?_
    simp only [Act.put, List.setIfInBounds_toArray, List.set_cons_zero, List.set_cons_succ]
    refine anyH_dindex dtA 3 (d := 47) (x := .tmp 45) (y := .tmp 46) b o (l + 1) cap l (by omega) (by rfl) (by kernel_rfl) (by kernel_rfl) (by kernel_rfl) (fun _ _ _ h => h) (by rfl) (by rfl) HS.out ?_
    simp only [Act.put, List.setIfInBounds_toArray, List.set_cons_zero, List.set_cons_succ]
    refine anyH_loadG 4 (d := 48) (ty := 30) (x := (.tmp 47)) (gd := none) (p := .pointer (some ⟨b, o + l * 32, none⟩)) (.agg (cellsOf y).toArray) (by rfl) (fun o ho => wanted_plain ho _) (by kernel_rfl) (by kernel_rfl) (by kernel_rfl) (fun _ _ _ h => h) (by rfl) HLY.out HS.out ?_
    simp only [Act.put, List.setIfInBounds_toArray, List.set_cons_zero, List.set_cons_succ]
    refine anyH_pureG 6 (d := 50) (op := .move (.tmp 13)) (gd := none) (.bool c) (by rfl) (fun o ho => wanted_plain ho _) (by kernel_rfl) (by kernel_rfl) (by kernel_rfl) (fun _ _ _ h => h) (fun o ho W hW => by unfold execOp; simp only [ho]; go_simp) HS.out ?_
    simp only [Act.put, List.setIfInBounds_toArray, List.set_cons_zero, List.set_cons_succ]
    refine anyH_callG 5 (d := some 49) (f := 37) (xs := #[(.tmp 44), (.tmp 48)]) (ts := #[30, 30]) (gd := none) (vs := #[.agg (cellsOf x).toArray, .agg (cellsOf y).toArray]) (by kernel_rfl) (by rfl) (fun o ho => wanted_plain ho _) (by go_simp) (by go_simp) (HNODE.out _ HS.out) ?_
    rintro e9 w9 ⟨rfl, hb9⟩
    refine ⟨_, rfl, HS.out.step hb9, fun hS9 => ?_⟩
    have HS := Lib.hid hS9
    have HC := Lib.hid (HC.out.below hb9)
    clear hS9 hb9
    simp only [Act.put, List.setIfInBounds_toArray, List.set_cons_zero, List.set_cons_succ]
    have HNI := Lib.hid (info32 dtA HN.out)
    have HTH := Lib.hid (HC.out.2.1.there _ (show (cellsOf N).toArray.size = zs32.length from by rw [cellsOf_size, HN.out.1, zs32_len]))
    refine anyH_op 7 (d := none) (op := .store 30 (.tmp 8) (.tmp 49)) (by kernel_rfl) (by rfl) ?_
    intro o1 hod hoo
    refine wp_store_mid 30 (.tmp 8) (.tmp 49) hoo (w.heap.size + 1) 0 (cellsOf N).toArray (by rfl) (by rfl) HTH.out HNI.out (cellsOf_all _) ?_
    rw [hod, List.toList_toArray]
    have HO := Lib.hid (Only.setCells (cellsOf N) 0 (Only.refl (w.heap.size + 1) w9))
    have HC2 := Lib.hid (HC.out.set N (by rw [HN.out.1, zs32_len]))
    have HS2 := Lib.hid (show C9 w leaf b o l way g x _ from ⟨⟨N, HN.out.1, HC2.out⟩, HS.out.2.1.only HR.out (by omega) HO.out, HS.out.2.2.only HO.out (by omega)⟩)
    refine ⟨HS2.out, ?_⟩
    clear HS HTH HO hod hoo HC
    simp only [Act.put]
    refine anyH_pureG 8 (d := 9) (op := .assign (.tmp 50)) (gd := none) (.bool c) (by rfl) (fun o ho => wanted_plain ho _) (by kernel_rfl) (by kernel_rfl) (by kernel_rfl) (fun _ _ _ h => h) (fun o ho W hW => by unfold execOp; simp only [ho]; go_simp) HS2.out ?_
    simp only [Act.put, List.setIfInBounds_toArray, List.set_cons_zero, List.set_cons_succ]
    refine wpAnyH_done (by kernel_rfl) ?_ _
    refine gen_exit (F := C2 w leaf N) HC2.out ?_
    intro wF hcf
    have HF := Lib.hid hcf
    clear hcf HC2 HS2
    go_wp2
    refine bodyPost_ret (results_pair (by rfl) _ _ (w.heap.size + 1) _ (cellsOf N).toArray (0, 0) _ (.bool c) (by rfl) (by rfl) HF.out.2.1 Tryd.underlying30 (by rfl) HNI.out) ?_ ?_
    · rfl
    · exact ⟨N, HN.out, by rw [(HFIN.out x HXE.out).1], by rw [HNE.out]; exact (HFIN.out x HXE.out).2, HF.out.2.2⟩
set_option maxRecDepth 100000 in
set_option maxHeartbeats 4000000 in
theorem climb_r (n k i : Nat) (ih : CIH n) (leaf : List Nat) (a : Option Addr) (l cap : Nat) (way : Ds) (w : World) (h2 : 2 ≤ n) (hn : n ≤ 9223372036854775807) (hi : i < n) (hk : Mk.half n = k) (hik : ¬ i < k) (hl : D32 leaf) (hr : DR w a (l + 1) way) (hlc : l + 1 ≤ cap) (hcm : cap ≤ 9223372036854775807) (ht : Tab w) :
    Calls Tryd.prog 42 #[.int .i64 (n : Int), .int .i64 (i : Int), .agg (cellsOf leaf).toArray, .slice a (l + 1) cap] w (CliRet n i leaf way w) := by
  have hk0 : 0 < k := by rw [← hk]; exact Mk.half_pos n
  have hkn : k < n := by rw [← hk]; exact Mk.half_lt n h2
  have HH := Lib.hid (fun W => split_c n W h2 (by omega))
  rw [hk] at HH
  have q0 : ¬ (n : Int) = 1 := by omega
  have q2 : ¬ (i : Int) < (k : Int) := by omega
  obtain ⟨b, o, rfl, hblk, _⟩ := hr.at l (by omega)
  obtain ⟨y, hy⟩ : ∃ y, y = way.getD l [] := ⟨_, rfl⟩
  have HY := Lib.hid (show D32 y from by rw [hy]; exact D32.get hr.2.1 l (by rw [hr.1]; omega))
  have HYE := Lib.hid hy
  have HT := Lib.hid ht
  have hpos := ht.pos
  have HR := Lib.hid hr
  have HLF := Lib.hid hl
  obtain ⟨c, hc⟩ : ∃ c, c = (topS (n - k) (i - k) leaf (way.take l)).isSome := ⟨_, rfl⟩
  have HIN := Lib.hid (show ∀ W, DR W (some ⟨b, o, none⟩) (l + 1) way → Tab W → Calls Tryd.prog 42 #[.int .i64 ((n - k : Nat) : Int), .int .i64 ((i - k : Nat) : Int), .agg (cellsOf leaf).toArray, .slice (some ⟨b, o, none⟩) l cap] W (fun e w' => ∃ x, D32 x ∧ e = .returned (.tuple #[.agg (cellsOf x).toArray, .bool c]) ∧ (∀ d, topS (n - k) (i - k) leaf (way.take l) = some d → x = d) ∧ Below W.heap.size W w') from fun W hW hT => by rw [hc]; exact ih (n - k) (by omega) (by omega) (i - k) leaf (some ⟨b, o, none⟩) l cap _ W (by omega) hl (hW.take l (by omega)) (by omega) hcm hT)
  have HFIN := Lib.hid (show ∀ x, (∀ d, topS (n - k) (i - k) leaf (way.take l) = some d → x = d) → (topS n i leaf way).isSome = c ∧ ∀ d, topS n i leaf way = some d → nodeS y x = d from fun x hx => by rw [hc]; exact cli_right h2 hk hik hr.1 hy hx)
  have HGZ := Lib.hid (info32 dtA HLF.out)
  clear ih hc hy hl hr ht hk
  go_enter Tryd.func42, Tryd.ntmps42
  go_upto_region 1 with fail
  refine gen_code (F := C2 w leaf zs32) (C2.new w leaf zs32) ?_
  intro wA hc
  have HC := Lib.hid hc.drew
  clear hc
  go_upto_region 10 with (first | (go_at_call 48; refine (HH.out _).mono ?_; rintro e wb ⟨rfl, rfl⟩))
  (try dsimp only [Act.put, List.setIfInBounds_toArray, List.set_cons_zero, List.set_cons_succ])
  have HS := Lib.hid (show CS w leaf (some ⟨b, o, none⟩) l way wA.drew from ⟨HC.out, HR.out.below HC.out.2.2⟩)
  have HLL := Lib.hid (fun W (hW : CS w leaf (some ⟨b, o, none⟩) l way W) => run_dload dtA W w.heap.size 0 leaf HLF.out hW.1.1.range)
  refine anyH_begin (S := CS w leaf (some ⟨b, o, none⟩) l way) (by kernel_rfl) ?_
  refine anyH_pureG 0 (d := 52) (op := .move (.tmp 0)) (gd := none) (.int .i64 (n : Int)) (by rfl) (fun o ho => wanted_plain ho _) (by kernel_rfl) (by kernel_rfl) (by kernel_rfl) (fun _ _ _ h => h) (fun o ho W hW => by unfold execOp; simp only [ho]; go_simp) HS.out ?_
  simp only [Act.put, List.setIfInBounds_toArray, List.set_cons_zero, List.set_cons_succ]
  refine anyH_pureG 1 (d := 53) (op := .move (.tmp 11)) (gd := none) (.int .i64 (k : Int)) (by rfl) (fun o ho => wanted_plain ho _) (by kernel_rfl) (by kernel_rfl) (by kernel_rfl) (fun _ _ _ h => h) (fun o ho W hW => by unfold execOp; simp only [ho]; go_simp) HS.out ?_
  simp only [Act.put, List.setIfInBounds_toArray, List.set_cons_zero, List.set_cons_succ]
  refine anyH_pureG 2 (d := 54) (op := .binOp .sub 3 (.tmp 52) (.tmp 53) 3) (gd := none) (.int .i64 ((n - k : Nat) : Int)) (by rfl) (fun o ho => wanted_plain ho _) (by kernel_rfl) (by kernel_rfl) (by kernel_rfl) (fun _ _ _ h => h) (fun o ho W hW => by unfold execOp; simp only [ho]; rw [show ((n - k : Nat) : Int) = (n : Int) - (k : Int) by omega]; go_simp; rw [IntKind.wrap_i64]; omega) HS.out ?_
  simp only [Act.put, List.setIfInBounds_toArray, List.set_cons_zero, List.set_cons_succ]
  refine anyH_pureG 3 (d := 55) (op := .move (.tmp 1)) (gd := none) (.int .i64 (i : Int)) (by rfl) (fun o ho => wanted_plain ho _) (by kernel_rfl) (by kernel_rfl) (by kernel_rfl) (fun _ _ _ h => h) (fun o ho W hW => by unfold execOp; simp only [ho]; go_simp) HS.out ?_
  simp only [Act.put, List.setIfInBounds_toArray, List.set_cons_zero, List.set_cons_succ]
  refine anyH_pureG 4 (d := 56) (op := .move (.tmp 11)) (gd := none) (.int .i64 (k : Int)) (by rfl) (fun o ho => wanted_plain ho _) (by kernel_rfl) (by kernel_rfl) (by kernel_rfl) (fun _ _ _ h => h) (fun o ho W hW => by unfold execOp; simp only [ho]; go_simp) HS.out ?_
  simp only [Act.put, List.setIfInBounds_toArray, List.set_cons_zero, List.set_cons_succ]
  refine anyH_pureG 5 (d := 57) (op := .binOp .sub 3 (.tmp 55) (.tmp 56) 3) (gd := none) (.int .i64 ((i - k : Nat) : Int)) (by rfl) (fun o ho => wanted_plain ho _) (by kernel_rfl) (by kernel_rfl) (by kernel_rfl) (fun _ _ _ h => h) (fun o ho W hW => by unfold execOp; simp only [ho]; rw [show ((i - k : Nat) : Int) = (i : Int) - (k : Int) by omega]; go_simp; rw [IntKind.wrap_i64]; omega) HS.out ?_
  simp only [Act.put, List.setIfInBounds_toArray, List.set_cons_zero, List.set_cons_succ]
  refine anyH_loadG 6 (d := 58) (ty := 30) (x := (.tmp 6)) (gd := none) (p := .pointer (some ⟨w.heap.size, 0, none⟩)) (.agg (cellsOf leaf).toArray) (by rfl) (fun o ho => wanted_plain ho _) (by kernel_rfl) (by kernel_rfl) (by kernel_rfl) (fun _ _ _ h => h) (by rfl) HLL.out HS.out ?_
  simp only [Act.put, List.setIfInBounds_toArray, List.set_cons_zero, List.set_cons_succ]
  refine anyH_pureG 7 (d := 59) (op := .move (.tmp 3)) (gd := none) (.slice (some ⟨b, o, none⟩) (l + 1) cap) (by rfl) (fun o ho => wanted_plain ho _) (by kernel_rfl) (by kernel_rfl) (by kernel_rfl) (fun _ _ _ h => h) (fun o ho W hW => by unfold execOp; simp only [ho]; go_simp) HS.out ?_
  simp only [Act.put, List.setIfInBounds_toArray, List.set_cons_zero, List.set_cons_succ]
  refine anyH_pureG 8 (d := 60) (op := .move (.tmp 10)) (gd := none) (.int .i64 (l : Int)) (by rfl) (fun o ho => wanted_plain ho _) (by kernel_rfl) (by kernel_rfl) (by kernel_rfl) (fun _ _ _ h => h) (fun o ho W hW => by unfold execOp; simp only [ho]; go_simp) HS.out ?_
  simp only [Act.put, List.setIfInBounds_toArray, List.set_cons_zero, List.set_cons_succ]
  refine anyH_dhead dtA 9 (d := 61) (x := .tmp 59) (y := .tmp 60) (some ⟨b, o, none⟩) (l + 1) cap l (by omega) (by rfl) (by kernel_rfl) (by kernel_rfl) (by kernel_rfl) (fun _ _ _ h => h) (by rfl) (by rfl) HS.out ?_
  simp only [Act.put, List.setIfInBounds_toArray, List.set_cons_zero, List.set_cons_succ]
  refine anyH_two 10 14 (d1 := some 62) (op1 := .call { callee := .value (.func 42), args := #[(.tmp 54), (.tmp 57), (.tmp 58), (.tmp 61)], argTypes := #[3, 3, 30, 31] }) (d2 := some 14) (op2 := .alloc 30) (by kernel_rfl) (by rfl) (by rfl) ?_ ?_
  · intro o0 hod hoo
    refine wp_call_fn (R := _) hoo (vs := #[.int .i64 ((n - k : Nat) : Int), .int .i64 ((i - k : Nat) : Int), .agg (cellsOf leaf).toArray, .slice (some ⟨b, o, none⟩) l cap]) (by go_simp) (by go_simp) (HIN.out _ HS.out.2 (HT.out.below HS.out.1.2.2 hpos)) ?_
    rintro e w1 ⟨x, hx, rfl, hxe, hb1⟩
    refine ⟨_, rfl, HS.out.step hb1, ?_⟩
    rw [hod]
    have HS := Lib.hid (HS.out.step hb1)
    have HX := Lib.hid hx
    have HXE := Lib.hid hxe
    clear hod hoo hx hxe hb1
    simp only [Act.put, List.setIfInBounds_toArray, List.set_cons_zero, List.set_cons_succ]
    refine anyH_pureG 11 (d := 51) (op := .move (.tmp 62)) (gd := none) (.tuple #[.agg (cellsOf x).toArray, .bool c]) (by rfl) (fun o ho => wanted_plain ho _) (by kernel_rfl) (by kernel_rfl) (by kernel_rfl) (fun _ _ _ h => h) (fun o ho W hW => by unfold execOp; simp only [ho]; go_simp) HS.out ?_
    simp only [Act.put, List.setIfInBounds_toArray, List.set_cons_zero, List.set_cons_succ]
    refine anyH_pureG 12 (d := 63) (op := .extract (.tmp 51) 0) (gd := none) (.agg (cellsOf x).toArray) (by rfl) (fun o ho => wanted_plain ho _) (by kernel_rfl) (by kernel_rfl) (by kernel_rfl) (fun _ _ _ h => h) (fun o ho W hW => by unfold execOp; simp only [ho]; go_simp) HS.out ?_
    simp only [Act.put, List.setIfInBounds_toArray, List.set_cons_zero, List.set_cons_succ]
    refine anyH_pureG 13 (d := 64) (op := .extract (.tmp 51) 1) (gd := none) (.bool c) (by rfl) (fun o ho => wanted_plain ho _) (by kernel_rfl) (by kernel_rfl) (by kernel_rfl) (fun _ _ _ h => h) (fun o ho W hW => by unfold execOp; simp only [ho]; go_simp) HS.out ?_
    simp only [Act.put, List.setIfInBounds_toArray, List.set_cons_zero, List.set_cons_succ]
    refine anyH_op 14 (d := some 14) (op := .alloc 30) (by kernel_rfl) (by rfl) ?_
    intro o0 hod hoo
    refine wp_alloc_dig hoo ?_
    have HB := Lib.hid (show Below w1.heap.size w1 (w1.alloc (.cells (cellsOf zs32).toArray 30)) from (Below.refl _ _).alloc (Nat.le_refl _) _)
    have HZ := Lib.hid (Brow.new w1 30 zs32)
    have hg1 := HS.out.1.2.1.lt
    have hg2 := HS.out.1.2.2.size
    refine ⟨HS.out.step HB.out, ?_⟩
    have HS := Lib.hid (HS.out.step HB.out)
    rw [hod]
    clear hod hoo HB
    simp only [Act.put, List.setIfInBounds_toArray, List.set_cons_zero, List.set_cons_succ]
    obtain ⟨g, hg⟩ : ∃ g, g = w1.heap.size := ⟨_, rfl⟩
    rw [← hg] at HZ ⊢
    have hgw : w.heap.size + 1 < g := by omega
    have HGI := Lib.hid (info32 dtA HX.out)
    have HTH := Lib.hid (HZ.out.there _ (show (cellsOf x).toArray.size = zs32.length from by rw [cellsOf_size, HX.out.1, zs32_len]))
    refine anyH_op 15 (d := none) (op := .store 30 (.tmp 14) (.tmp 63)) (by kernel_rfl) (by rfl) ?_
    intro o1 hod hoo
    refine wp_store_mid 30 (.tmp 14) (.tmp 63) hoo g 0 (cellsOf x).toArray (by rfl) (by rfl) HTH.out HGI.out (cellsOf_all _) ?_
    rw [hod, List.toList_toArray]
    have HO := Lib.hid (Only.setCells (cellsOf x) 0 (Only.refl g (w1.alloc (.cells (cellsOf zs32).toArray 30))))
    have HZ2 := Lib.hid (HZ.out.setAll (ys := x) (by rw [HX.out.1, zs32_len]))
    have HS2 := Lib.hid (show CS w leaf (some ⟨b, o, none⟩) l way _ from ⟨HS.out.1.only hgw HO.out, HS.out.2.only HR.out (by omega) HO.out⟩)
    refine ⟨HS2.out, ?_⟩
    clear HS HZ HTH HO hod hoo
    simp only [Act.put]
    refine anyH_pureG 16 (d := 15) (op := .assign (.tmp 64)) (gd := none) (.bool c) (by rfl) (fun o ho => wanted_plain ho _) (by kernel_rfl) (by kernel_rfl) (by kernel_rfl) (fun _ _ _ h => h) (fun o ho W hW => by unfold execOp; simp only [ho]; go_simp) HS2.out ?_
    simp only [Act.put, List.setIfInBounds_toArray, List.set_cons_zero, List.set_cons_succ]
    refine wpAnyH_done (by kernel_rfl) ?_ _
    refine gen_exit (F := fun W => CS w leaf (some ⟨b, o, none⟩) l way W ∧ Brow W g 30 x) ⟨HS2.out, HZ2.out⟩ ?_
    rintro wE ⟨hcs, hz⟩
    have HC := Lib.hid hcs.1.drew
    have HS := Lib.hid (show C9 w leaf b o l way g x wE.drew from ⟨⟨zs32, zs32_len, hcs.1.drew⟩, hcs.2, hz.drew⟩)
    clear hcs hz HS2 HZ2
    go_upto_region 11 with fail
    (try dsimp only [Act.put, List.setIfInBounds_toArray, List.set_cons_zero, List.set_cons_succ])
    have HLX := Lib.hid (fun W (hW : C9 w leaf b o l way g x W) => run_dload dtA W g 0 x HX.out hW.2.2.range)
    have HLY := Lib.hid (fun W (hW : C9 w leaf b o l way g x W) => run_dload dtA W b (o + l * 32) y HY.out (by
      obtain ⟨b', o', h1, _, h3⟩ := hW.2.1.at l (by omega)
      simp only [Option.some.injEq, Addr.mk.injEq, and_true] at h1
      obtain ⟨rfl, rfl⟩ := h1
      rw [HYE.out]
      exact h3))
    obtain ⟨N, hN⟩ : ∃ N, N = nodeS y x := ⟨_, rfl⟩
    have HN := Lib.hid (show D32 N from by rw [hN]; exact d32_sum _)
    have HNE := Lib.hid hN
    have HNODE := Lib.hid (show ∀ W, C9 w leaf b o l way g x W → Calls Tryd.prog 37 #[.agg (cellsOf y).toArray, .agg (cellsOf x).toArray] W (DigRet N W) from fun W hW => by
      obtain ⟨⟨z, hz, h1⟩, _, _⟩ := hW
      rw [hN]; exact node_c y x W HY.out HX.out (HT.out.below h1.2.2 hpos))
    clear hN
    refine anyH_begin (S := C9 w leaf b o l way g x) (by kernel_rfl) ?_
    refine anyH_pureG 0 (d := 65) (op := .move (.tmp 3)) (gd := none) (.slice (some ⟨b, o, none⟩) (l + 1) cap) (by rfl) (fun o ho => wanted_plain ho _) (by kernel_rfl) (by kernel_rfl) (by kernel_rfl) (fun _ _ _ h => h) (fun o ho W hW => by unfold execOp; simp only [ho]; go_simp) HS.out ?_
    simp only [Act.put, List.setIfInBounds_toArray, List.set_cons_zero, List.set_cons_succ]
    refine anyH_pureG 1 (d := 66) (op := .move (.tmp 10)) (gd := none) (.int .i64 (l : Int)) (by rfl) (fun o ho => wanted_plain ho _) (by kernel_rfl) (by kernel_rfl) (by kernel_rfl) (fun _ _ _ h => h) (fun o ho W hW => by unfold execOp; simp only [ho]; go_simp) HS.out ?_
    simp only [Act.put, List.setIfInBounds_toArray, List.set_cons_zero, List.set_cons_succ]
    refine anyH_dindex dtA 2 (d := 67) (x := .tmp 65) (y := .tmp 66) b o (l + 1) cap l (by omega) (by rfl) (by kernel_rfl) (by kernel_rfl) (by kernel_rfl) (fun _ _ _ h => h) (by rfl) (by rfl) HS.out ?_
    simp only [Act.put, List.setIfInBounds_toArray, List.set_cons_zero, List.set_cons_succ]
    refine anyH_loadG 3 (d := 68) (ty := 30) (x := (.tmp 67)) (gd := none) (p := .pointer (some ⟨b, o + l * 32, none⟩)) (.agg (cellsOf y).toArray) (by rfl) (fun o ho => wanted_plain ho _) (by kernel_rfl) (by kernel_rfl) (by kernel_rfl) (fun _ _ _ h => h) (by rfl) HLY.out HS.out ?_
    simp only [Act.put, List.setIfInBounds_toArray, List.set_cons_zero, List.set_cons_succ]
    refine anyH_loadG 4 (d := 69) (ty := 30) (x := (.tmp 14)) (gd := none) (p := .pointer (some ⟨g, 0, none⟩)) (.agg (cellsOf x).toArray) (by rfl) (fun o ho => wanted_plain ho _) (by kernel_rfl) (by kernel_rfl) (by kernel_rfl) (fun _ _ _ h => h) (by rfl) HLX.out HS.out ?_
    simp only [Act.put, List.setIfInBounds_toArray, List.set_cons_zero, List.set_cons_succ]
    refine anyH_pureG 6 (d := 71) (op := .move (.tmp 15)) (gd := none) (.bool c) (by rfl) (fun o ho => wanted_plain ho _) (by kernel_rfl) (by kernel_rfl) (by kernel_rfl) (fun _ _ _ h => h) (fun o ho W hW => by unfold execOp; simp only [ho]; go_simp) HS.out ?_
    simp only [Act.put, List.setIfInBounds_toArray, List.set_cons_zero, List.set_cons_succ]
    refine anyH_callG 5 (d := some 70) (f := 37) (xs := #[(.tmp 68), (.tmp 69)]) (ts := #[30, 30]) (gd := none) (vs := #[.agg (cellsOf y).toArray, .agg (cellsOf x).toArray]) (by kernel_rfl) (by rfl) (fun o ho => wanted_plain ho _) (by go_simp) (by go_simp) (HNODE.out _ HS.out) ?_
    rintro e9 w9 ⟨rfl, hb9⟩
    refine ⟨_, rfl, HS.out.step hb9, fun hS9 => ?_⟩
    have HS := Lib.hid hS9
    have HC := Lib.hid (HC.out.below hb9)
    clear hS9 hb9
    simp only [Act.put, List.setIfInBounds_toArray, List.set_cons_zero, List.set_cons_succ]
    have HNI := Lib.hid (info32 dtA HN.out)
    have HTH := Lib.hid (HC.out.2.1.there _ (show (cellsOf N).toArray.size = zs32.length from by rw [cellsOf_size, HN.out.1, zs32_len]))
    refine anyH_op 7 (d := none) (op := .store 30 (.tmp 8) (.tmp 70)) (by kernel_rfl) (by rfl) ?_
    intro o1 hod hoo
    refine wp_store_mid 30 (.tmp 8) (.tmp 70) hoo (w.heap.size + 1) 0 (cellsOf N).toArray (by rfl) (by rfl) HTH.out HNI.out (cellsOf_all _) ?_
    rw [hod, List.toList_toArray]
    have HO := Lib.hid (Only.setCells (cellsOf N) 0 (Only.refl (w.heap.size + 1) w9))
    have HC2 := Lib.hid (HC.out.set N (by rw [HN.out.1, zs32_len]))
    have HS2 := Lib.hid (show C9 w leaf b o l way g x _ from ⟨⟨N, HN.out.1, HC2.out⟩, HS.out.2.1.only HR.out (by omega) HO.out, HS.out.2.2.only HO.out (by omega)⟩)
    refine ⟨HS2.out, ?_⟩
    clear HS HTH HO hod hoo HC
    simp only [Act.put]
    refine anyH_pureG 8 (d := 9) (op := .assign (.tmp 71)) (gd := none) (.bool c) (by rfl) (fun o ho => wanted_plain ho _) (by kernel_rfl) (by kernel_rfl) (by kernel_rfl) (fun _ _ _ h => h) (fun o ho W hW => by unfold execOp; simp only [ho]; go_simp) HS2.out ?_
    simp only [Act.put, List.setIfInBounds_toArray, List.set_cons_zero, List.set_cons_succ]
    refine wpAnyH_done (by kernel_rfl) ?_ _
    refine gen_exit (F := C2 w leaf N) HC2.out ?_
    intro wF hcf
    have HF := Lib.hid hcf
    clear hcf HC2 HS2
    go_wp2
    refine bodyPost_ret (results_pair (by rfl) _ _ (w.heap.size + 1) _ (cellsOf N).toArray (0, 0) _ (.bool c) (by rfl) (by rfl) HF.out.2.1 Tryd.underlying30 (by rfl) HNI.out) ?_ ?_
    · rfl
    · exact ⟨N, HN.out, by rw [(HFIN.out x HXE.out).1], by rw [HNE.out]; exact (HFIN.out x HXE.out).2, HF.out.2.2⟩
  · intro o0 hod hoo
    refine wp_alloc_dig hoo ?_
    have HB := Lib.hid (show Below wA.drew.heap.size wA.drew (wA.drew.alloc (.cells (cellsOf zs32).toArray 30)) from (Below.refl _ _).alloc (Nat.le_refl _) _)
    have HZ := Lib.hid (Brow.new wA.drew 30 zs32)
    have hg1 := HS.out.1.2.1.lt
    have hg2 := HS.out.1.2.2.size
    refine ⟨HS.out.step HB.out, ?_⟩
    have HS := Lib.hid (HS.out.step HB.out)
    rw [hod]
    clear hod hoo HB
    simp only [Act.put, List.setIfInBounds_toArray, List.set_cons_zero, List.set_cons_succ]
    refine anyH_op 10 (d := some 62) (op := .call { callee := .value (.func 42), args := #[(.tmp 54), (.tmp 57), (.tmp 58), (.tmp 61)], argTypes := #[3, 3, 30, 31] }) (by kernel_rfl) (by rfl) ?_
    intro o0 hod hoo
    refine wp_call_fn (R := _) hoo (vs := #[.int .i64 ((n - k : Nat) : Int), .int .i64 ((i - k : Nat) : Int), .agg (cellsOf leaf).toArray, .slice (some ⟨b, o, none⟩) l cap]) (by go_simp) (by go_simp) (HIN.out _ HS.out.2 (HT.out.below HS.out.1.2.2 hpos)) ?_
    rintro e w1 ⟨x, hx, rfl, hxe, hb1⟩
    refine ⟨_, rfl, HS.out.step hb1, ?_⟩
    rw [hod]
    have HZ := Lib.hid (HZ.out.below hb1 HZ.out.lt)
    have HS := Lib.hid (HS.out.step hb1)
    have HX := Lib.hid hx
    have HXE := Lib.hid hxe
    clear hod hoo hx hxe hb1
    simp only [Act.put, List.setIfInBounds_toArray, List.set_cons_zero, List.set_cons_succ]
    refine anyH_pureG 11 (d := 51) (op := .move (.tmp 62)) (gd := none) (.tuple #[.agg (cellsOf x).toArray, .bool c]) (by rfl) (fun o ho => wanted_plain ho _) (by kernel_rfl) (by kernel_rfl) (by kernel_rfl) (fun _ _ _ h => h) (fun o ho W hW => by unfold execOp; simp only [ho]; go_simp) HS.out ?_
    simp only [Act.put, List.setIfInBounds_toArray, List.set_cons_zero, List.set_cons_succ]
    refine anyH_pureG 12 (d := 63) (op := .extract (.tmp 51) 0) (gd := none) (.agg (cellsOf x).toArray) (by rfl) (fun o ho => wanted_plain ho _) (by kernel_rfl) (by kernel_rfl) (by kernel_rfl) (fun _ _ _ h => h) (fun o ho W hW => by unfold execOp; simp only [ho]; go_simp) HS.out ?_
    simp only [Act.put, List.setIfInBounds_toArray, List.set_cons_zero, List.set_cons_succ]
    refine anyH_pureG 13 (d := 64) (op := .extract (.tmp 51) 1) (gd := none) (.bool c) (by rfl) (fun o ho => wanted_plain ho _) (by kernel_rfl) (by kernel_rfl) (by kernel_rfl) (fun _ _ _ h => h) (fun o ho W hW => by unfold execOp; simp only [ho]; go_simp) HS.out ?_
    simp only [Act.put, List.setIfInBounds_toArray, List.set_cons_zero, List.set_cons_succ]
    obtain ⟨g, hg⟩ : ∃ g, g = wA.drew.heap.size := ⟨_, rfl⟩
    rw [← hg] at HZ ⊢
    have hgw : w.heap.size + 1 < g := by omega
    have HGI := Lib.hid (info32 dtA HX.out)
    have HTH := Lib.hid (HZ.out.there _ (show (cellsOf x).toArray.size = zs32.length from by rw [cellsOf_size, HX.out.1, zs32_len]))
    refine anyH_op 15 (d := none) (op := .store 30 (.tmp 14) (.tmp 63)) (by kernel_rfl) (by rfl) ?_
    intro o1 hod hoo
    refine wp_store_mid 30 (.tmp 14) (.tmp 63) hoo g 0 (cellsOf x).toArray (by rfl) (by rfl) HTH.out HGI.out (cellsOf_all _) ?_
    rw [hod, List.toList_toArray]
    have HO := Lib.hid (Only.setCells (cellsOf x) 0 (Only.refl g w1))
    have HZ2 := Lib.hid (HZ.out.setAll (ys := x) (by rw [HX.out.1, zs32_len]))
    have HS2 := Lib.hid (show CS w leaf (some ⟨b, o, none⟩) l way _ from ⟨HS.out.1.only hgw HO.out, HS.out.2.only HR.out (by omega) HO.out⟩)
    refine ⟨HS2.out, ?_⟩
    clear HS HZ HTH HO hod hoo
    simp only [Act.put]
    refine anyH_pureG 16 (d := 15) (op := .assign (.tmp 64)) (gd := none) (.bool c) (by rfl) (fun o ho => wanted_plain ho _) (by kernel_rfl) (by kernel_rfl) (by kernel_rfl) (fun _ _ _ h => h) (fun o ho W hW => by unfold execOp; simp only [ho]; go_simp) HS2.out ?_
    simp only [Act.put, List.setIfInBounds_toArray, List.set_cons_zero, List.set_cons_succ]
    refine wpAnyH_done (by kernel_rfl) ?_ _
    refine gen_exit (F := fun W => CS w leaf (some ⟨b, o, none⟩) l way W ∧ Brow W g 30 x) ⟨HS2.out, HZ2.out⟩ ?_
    rintro wE ⟨hcs, hz⟩
    have HC := Lib.hid hcs.1.drew
    have HS := Lib.hid (show C9 w leaf b o l way g x wE.drew from ⟨⟨zs32, zs32_len, hcs.1.drew⟩, hcs.2, hz.drew⟩)
    clear hcs hz HS2 HZ2
    go_upto_region 11 with fail
    (try dsimp only [Act.put, List.setIfInBounds_toArray, List.set_cons_zero, List.set_cons_succ])
    have HLX := Lib.hid (fun W (hW : C9 w leaf b o l way g x W) => run_dload dtA W g 0 x HX.out hW.2.2.range)
    have HLY := Lib.hid (fun W (hW : C9 w leaf b o l way g x W) => run_dload dtA W b (o + l * 32) y HY.out (by
      obtain ⟨b', o', h1, _, h3⟩ := hW.2.1.at l (by omega)
      simp only [Option.some.injEq, Addr.mk.injEq, and_true] at h1
      obtain ⟨rfl, rfl⟩ := h1
      rw [HYE.out]
      exact h3))
    obtain ⟨N, hN⟩ : ∃ N, N = nodeS y x := ⟨_, rfl⟩
    have HN := Lib.hid (show D32 N from by rw [hN]; exact d32_sum _)
    have HNE := Lib.hid hN
    have HNODE := Lib.hid (show ∀ W, C9 w leaf b o l way g x W → Calls Tryd.prog 37 #[.agg (cellsOf y).toArray, .agg (cellsOf x).toArray] W (DigRet N W) from fun W hW => by
      obtain ⟨⟨z, hz, h1⟩, _, _⟩ := hW
      rw [hN]; exact node_c y x W HY.out HX.out (HT.out.below h1.2.2 hpos))
    clear hN
    refine anyH_begin (S := C9 w leaf b o l way g x) (by kernel_rfl) ?_
    refine anyH_pureG 0 (d := 65) (op := .move (.tmp 3)) (gd := none) (.slice (some ⟨b, o, none⟩) (l + 1) cap) (by rfl) (fun o ho => wanted_plain ho _) (by kernel_rfl) (by kernel_rfl) (by kernel_rfl) (fun _ _ _ h => h) (fun o ho W hW => by unfold execOp; simp only [ho]; go_simp) HS.out ?_
    simp only [Act.put, List.setIfInBounds_toArray, List.set_cons_zero, List.set_cons_succ]
    refine anyH_pureG 1 (d := 66) (op := .move (.tmp 10)) (gd := none) (.int .i64 (l : Int)) (by rfl) (fun o ho => wanted_plain ho _) (by kernel_rfl) (by kernel_rfl) (by kernel_rfl) (fun _ _ _ h => h) (fun o ho W hW => by unfold execOp; simp only [ho]; go_simp) HS.out ?_
    simp only [Act.put, List.setIfInBounds_toArray, List.set_cons_zero, List.set_cons_succ]
    refine anyH_dindex dtA 2 (d := 67) (x := .tmp 65) (y := .tmp 66) b o (l + 1) cap l (by omega) (by rfl) (by kernel_rfl) (by kernel_rfl) (by kernel_rfl) (fun _ _ _ h => h) (by rfl) (by rfl) HS.out ?_
    simp only [Act.put, List.setIfInBounds_toArray, List.set_cons_zero, List.set_cons_succ]
    refine anyH_loadG 3 (d := 68) (ty := 30) (x := (.tmp 67)) (gd := none) (p := .pointer (some ⟨b, o + l * 32, none⟩)) (.agg (cellsOf y).toArray) (by rfl) (fun o ho => wanted_plain ho _) (by kernel_rfl) (by kernel_rfl) (by kernel_rfl) (fun _ _ _ h => h) (by rfl) HLY.out HS.out ?_
    simp only [Act.put, List.setIfInBounds_toArray, List.set_cons_zero, List.set_cons_succ]
    refine anyH_loadG 4 (d := 69) (ty := 30) (x := (.tmp 14)) (gd := none) (p := .pointer (some ⟨g, 0, none⟩)) (.agg (cellsOf x).toArray) (by rfl) (fun o ho => wanted_plain ho _) (by kernel_rfl) (by kernel_rfl) (by kernel_rfl) (fun _ _ _ h => h) (by rfl) HLX.out HS.out ?_
    simp only [Act.put, List.setIfInBounds_toArray, List.set_cons_zero, List.set_cons_succ]
    refine anyH_pureG 6 (d := 71) (op := .move (.tmp 15)) (gd := none) (.bool c) (by rfl) (fun o ho => wanted_plain ho _) (by kernel_rfl) (by kernel_rfl) (by kernel_rfl) (fun _ _ _ h => h) (fun o ho W hW => by unfold execOp; simp only [ho]; go_simp) HS.out ?_
    simp only [Act.put, List.setIfInBounds_toArray, List.set_cons_zero, List.set_cons_succ]
    refine anyH_callG 5 (d := some 70) (f := 37) (xs := #[(.tmp 68), (.tmp 69)]) (ts := #[30, 30]) (gd := none) (vs := #[.agg (cellsOf y).toArray, .agg (cellsOf x).toArray]) (by kernel_rfl) (by rfl) (fun o ho => wanted_plain ho _) (by go_simp) (by go_simp) (HNODE.out _ HS.out) ?_
    rintro e9 w9 ⟨rfl, hb9⟩
    refine ⟨_, rfl, HS.out.step hb9, fun hS9 => ?_⟩
    have HS := Lib.hid hS9
    have HC := Lib.hid (HC.out.below hb9)
    clear hS9 hb9
    simp only [Act.put, List.setIfInBounds_toArray, List.set_cons_zero, List.set_cons_succ]
    have HNI := Lib.hid (info32 dtA HN.out)
    have HTH := Lib.hid (HC.out.2.1.there _ (show (cellsOf N).toArray.size = zs32.length from by rw [cellsOf_size, HN.out.1, zs32_len]))
    refine anyH_op 7 (d := none) (op := .store 30 (.tmp 8) (.tmp 70)) (by kernel_rfl) (by rfl) ?_
    intro o1 hod hoo
    refine wp_store_mid 30 (.tmp 8) (.tmp 70) hoo (w.heap.size + 1) 0 (cellsOf N).toArray (by rfl) (by rfl) HTH.out HNI.out (cellsOf_all _) ?_
    rw [hod, List.toList_toArray]
    have HO := Lib.hid (Only.setCells (cellsOf N) 0 (Only.refl (w.heap.size + 1) w9))
    have HC2 := Lib.hid (HC.out.set N (by rw [HN.out.1, zs32_len]))
    have HS2 := Lib.hid (show C9 w leaf b o l way g x _ from ⟨⟨N, HN.out.1, HC2.out⟩, HS.out.2.1.only HR.out (by omega) HO.out, HS.out.2.2.only HO.out (by omega)⟩)
    refine ⟨HS2.out, ?_⟩
    clear HS HTH HO hod hoo HC
    simp only [Act.put]
    refine anyH_pureG 8 (d := 9) (op := .assign (.tmp 71)) (gd := none) (.bool c) (by rfl) (fun o ho => wanted_plain ho _) (by kernel_rfl) (by kernel_rfl) (by kernel_rfl) (fun _ _ _ h => h) (fun o ho W hW => by unfold execOp; simp only [ho]; go_simp) HS2.out ?_
    simp only [Act.put, List.setIfInBounds_toArray, List.set_cons_zero, List.set_cons_succ]
    refine wpAnyH_done (by kernel_rfl) ?_ _
    refine gen_exit (F := C2 w leaf N) HC2.out ?_
    intro wF hcf
    have HF := Lib.hid hcf
    clear hcf HC2 HS2
    go_wp2
    refine bodyPost_ret (results_pair (by rfl) _ _ (w.heap.size + 1) _ (cellsOf N).toArray (0, 0) _ (.bool c) (by rfl) (by rfl) HF.out.2.1 Tryd.underlying30 (by rfl) HNI.out) ?_ ?_
    · rfl
    · exact ⟨N, HN.out, by rw [(HFIN.out x HXE.out).1], by rw [HNE.out]; exact (HFIN.out x HXE.out).2, HF.out.2.2⟩
end Go.Proofs.YtdcninfbpmhojaaDoor
