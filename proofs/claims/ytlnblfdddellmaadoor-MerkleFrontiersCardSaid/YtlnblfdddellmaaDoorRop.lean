/-
  The walk over Root.
-/
import Derived.Test.YtlnblfdddellmaaDoorRoo
namespace Go.Proofs.YtlnblfdddellmaaDoor
open Go.RowKit
set_option linter.unusedVariables false
section
variable {ops : Array Oper} {Q : Exit → Act → World → Prop} {md : Region.Mode}
theorem any_move {P : Program} (i : Nat) {d : Nat} {x : Operand} (v : Value) {fuel : Nat} {listed : Array Bool} {a : Act} {w : World}
    (hi : (ops[i]?.map fun o => (o.dst, o.op, o.guard)) = some (some d, .move x, none)) (hs : Region.noSelect ops = true) (hf : Region.free md ops listed i = true) (hr : (Region.ready md ops listed).contains i = true)
    (hQ : ∀ c a w, Q (.panic c) (a.put (some d) v) w → Q (.panic c) a w) (hx : a.eval x = v)
    (h : wpAny P md ops Q fuel (listed.setIfInBounds i true) (a.put (some d) v) w) : wpAny P md ops Q (fuel + 1) listed a w :=
  any_pure i v hi hs hf hr hQ (fun o ho W => by unfold execOp; simp only [ho, hx]; rfl) h
theorem any_dhead {T E : TypeId} (hT : DT T E) (i : Nat) {d : Nat} {x y : Operand} (b : Option Addr) (len cap k : Nat) (hk : k ≤ cap) {fuel : Nat} {listed : Array Bool} {a : Act} {w : World}
    (hi : (ops[i]?.map fun o => (o.dst, o.op, o.guard)) = some (some d, .slice T x none (some y) none, none)) (hs : Region.noSelect ops = true) (hf : Region.free md ops listed i = true) (hr : (Region.ready md ops listed).contains i = true)
    (hQ : ∀ c a w, Q (.panic c) (a.put (some d) (.slice b k cap)) w → Q (.panic c) a w) (hx : a.eval x = .slice b len cap) (hy : a.eval y = .int .i64 (k : Int))
    (h : wpAny Tryd.prog md ops Q fuel (listed.setIfInBounds i true) (a.put (some d) (.slice b k cap)) w) : wpAny Tryd.prog md ops Q (fuel + 1) listed a w :=
  any_pure i _ hi hs hf hr hQ (fun o ho W => by unfold execOp; simp only [ho, hx, hy, Option.map_none, Option.map_some, run_dheadAt hT W b len cap k hk, Sem.run_bind, Result.andThen_ok, Sem.run_pure]) h
theorem any_dcut {T E : TypeId} (hT : DT T E) (i : Nat) {d : Nat} {x y : Operand} (b : Option Addr) (len cap k : Nat) (hk : k ≤ len) {fuel : Nat} {listed : Array Bool} {a : Act} {w : World}
    (hi : (ops[i]?.map fun o => (o.dst, o.op, o.guard)) = some (some d, .slice T x (some y) none none, none)) (hs : Region.noSelect ops = true) (hf : Region.free md ops listed i = true) (hr : (Region.ready md ops listed).contains i = true)
    (hQ : ∀ c a w, Q (.panic c) (a.put (some d) (.slice (sld b cap k) (len - k) (cap - k))) w → Q (.panic c) a w) (hx : a.eval x = .slice b len cap) (hy : a.eval y = .int .i64 (k : Int))
    (h : wpAny Tryd.prog md ops Q fuel (listed.setIfInBounds i true) (a.put (some d) (.slice (sld b cap k) (len - k) (cap - k))) w) : wpAny Tryd.prog md ops Q (fuel + 1) listed a w :=
  any_pure i _ hi hs hf hr hQ (fun o ho W => by unfold execOp; simp only [ho, hx, hy, Option.map_none, Option.map_some, run_dcutAt hT W b len cap k hk, Sem.run_bind, Result.andThen_ok, Sem.run_pure]) h
/-- one operation alone may come up: by its own rule -/
theorem any_op {P : Program} (i : Nat) {d : Option Tmp} {op : Op} {fuel : Nat} {listed : Array Bool} {a : Act} {w : World}
    (h0 : Region.ready md ops listed = [i]) (hi : (ops[i]?.map fun o => (o.dst, o.op, o.guard)) = some (d, op, none))
    (h : ∀ o : Oper, o.dst = d → o.op = op → o.wp P a w (fun a w => wpAny P md ops Q fuel (listed.setIfInBounds i true) a w) Q) : wpAny P md ops Q (fuel + 1) listed a w := by
  refine wpAny_all h0 (by simp) ?_
  intro k hk
  simp only [List.mem_cons, List.not_mem_nil, or_false] at hk
  subst hk
  cases ho : ops[k]? with
  | none => simp [ho] at hi
  | some o =>
    simp only [ho, Option.map_some, Option.some.injEq, Prod.mk.injEq] at hi
    obtain ⟨g1, g2, g3⟩ := hi
    unfold wpOp
    simp only [ho, wanted_plain g3, if_true]
    exact .inl (h o g1 g2)
end
theorem Brow.there {w : World} {g : Nat} {t : TypeId} {zs : List Nat} (h : Brow w g t zs) (m : Nat) (hm : m = zs.length) : w.there g 0 m := fun j hj => by
  rw [Nat.zero_add, cell_of_row _ _ _ _ _ _ h, frozen_of_row _ _ _ _ _ h]
  rw [List.getElem?_toArray, cellsOf_get _ _ (by omega)]
  exact ⟨rfl, rfl⟩
theorem Brow.setAll {w : World} {g : Nat} {t : TypeId} {zs ys : List Nat} (h : Brow w g t zs) (hl : ys.length = zs.length) : Brow (w.setCells g 0 (cellsOf ys)) g t ys := by
  have := setCells_row g t (cellsOf ys) 0 (cellsOf zs) w h (by rw [cellsOf_length, cellsOf_length]; omega)
  rw [← cellsOf_splice, splice_whole zs ys hl.symm] at this
  exact this
set_option maxRecDepth 100000 in
set_option maxHeartbeats 1000000 in
theorem root_0 (a : Option Addr) (cap : Nat) (w : World) (ht : Tab w) :
    Calls Tryd.prog 32 #[.slice a 0 cap] w (DigRet (Sha.sum []) w) := by
  obtain ⟨S, hS⟩ : ∃ S, S = Sha.sum [] := ⟨_, rfl⟩
  have HS := Lib.hid (show D32 S from by rw [hS]; exact d32_sum _)
  have HSUM := Lib.hid (fun W (hT : Tab W) => dsum_c none 0 0 [] W ⟨rfl, by simp, .inl rfl⟩ (by omega) (by omega) (by omega) hT)
  rw [← hS] at HSUM ⊢
  have HT := Lib.hid ht
  clear hS ht
  go_enter Tryd.func32, Tryd.ntmps32
  go_upto_region 1 with fail
  refine gen_code (F := fun W => Brow W w.heap.size 32 zs32 ∧ Below w.heap.size w W) ⟨heap_new _ _, (Below.refl _ _).alloc (Nat.le_refl _) _⟩ ?_
  rintro wA ⟨hd, hb⟩
  have HD := Lib.hid hd
  have HB := Lib.hid hb
  clear hd hb
  go_wp2_with fail
  refine (HSUM.out _ (HT.out.below HB.out HT.out.pos)).mono ?_
  rintro e w2 ⟨rfl, hb2⟩
  have HD2 := Lib.hid (HD.out.below hb2 HD.out.lt)
  have HB2 := Lib.hid (HB.out.trans (hb2.mono HB.out.size))
  have HI := Lib.hid (info32 dtA HS.out)
  have HZ := Lib.hid (zsize HS.out)
  clear hb2
  go_wp2_with (first | (refine wpList_store_row (by rfl) 32 _ _ (by rfl) w.heap.size (cellsOf S).toArray (by rfl) (by rfl) 32 (cellsOf zs32).toArray HD2.out HI.out HZ.out (cellsOf_all _) ?_))
  refine bodyPost_ret (results_cell_row (by rfl) _ _ w.heap.size _ (cellsOf S).toArray (0, 0) _ (by rfl) HD2.out.setRow Tryd.underlying32 (by rfl) HI.out) ?_ ?_
  · rfl
  · exact ⟨rfl, HB2.out.setRow (by omega) _⟩
set_option maxRecDepth 100000 in
set_option maxHeartbeats 1000000 in
theorem root_1 (b o cap : Nat) (d : List Nat) (w : World) (hd : D32 d) (hb : b < w.heap.size) (hc : w.rangeAt b o (cellsOf d)) :
    Calls Tryd.prog 32 #[.slice (some ⟨b, o, none⟩) 1 cap] w (DigRet d w) := by
  have HD := Lib.hid hd
  have kI := fun W => run_dindex dtA W b o 1 cap 0 (by omega)
  simp only [Nat.zero_mul, Nat.add_zero, Int.cast_ofNat_Int] at kI
  have HC := Lib.hid hc
  clear hd hc
  go_enter Tryd.func32, Tryd.ntmps32
  go_upto_region 1 with fail
  refine gen_code (F := fun W => Brow W w.heap.size 32 zs32 ∧ Below w.heap.size w W) ⟨heap_new _ _, (Below.refl _ _).alloc (Nat.le_refl _) _⟩ ?_
  rintro wA ⟨hd, hbw⟩
  have HZ0 := Lib.hid hd
  have HB := Lib.hid hbw
  have HL := Lib.hid (run_dload dtA wA b o d HD.out (fun j v hv => ((hbw.cell (p := ⟨b, o + j, none⟩) hb).trans (HC.out j v hv))))
  have HI := Lib.hid (info32 dtA HD.out)
  have HZ := Lib.hid (zsize HD.out)
  clear hd hbw
  go_wp2_with (first | (refine wpList_loadg (ops := _) 32 _ (by rfl) (by rfl) (.pointer (some ⟨b, o, none⟩)) (by rfl) (.agg (cellsOf d).toArray) HL.out ?_) | (refine wpList_store_row (by rfl) 32 _ _ (by rfl) w.heap.size (cellsOf d).toArray (by rfl) (by rfl) 32 (cellsOf zs32).toArray HZ0.out HI.out HZ.out (cellsOf_all _) ?_))
  refine bodyPost_ret (results_cell_row (by rfl) _ _ w.heap.size _ (cellsOf d).toArray (0, 0) _ (by rfl) HZ0.out.setRow Tryd.underlying32 (by rfl) HI.out) ?_ ?_
  · rfl
  · exact ⟨rfl, HB.out.setRow (by omega) _⟩
/-- what a list's shorter lists give -/
def PIH (n : Nat) : Prop := ∀ m, m < n → ∀ (ds : Ds) (a : Option Addr) (cap : Nat) (w : World), DR w a m ds → m ≤ cap → cap ≤ 9223372036854775807 → Tab w → Calls Tryd.prog 32 #[.slice a m cap] w (DigRet (rootS ds) w)
set_option maxRecDepth 100000 in
set_option maxHeartbeats 2000000 in
theorem root_2 (n k : Nat) (ih : PIH n) (ds : Ds) (a : Option Addr) (cap : Nat) (w : World) (hr : DR w a n ds) (hlc : n ≤ cap) (hcm : cap ≤ 9223372036854775807) (ht : Tab w) (h2 : 2 ≤ n) (hk : Mk.half n = k) :
    Calls Tryd.prog 32 #[.slice a n cap] w (DigRet (rootS ds) w) := by
  have hk0 : 0 < k := by rw [← hk]; exact Mk.half_pos n
  have hkn : k < n := by rw [← hk]; exact Mk.half_lt n h2
  have HT := Lib.hid ht
  have hpos := ht.pos
  have HIH := Lib.hid ih
  have HR := Lib.hid hr
  have HH := Lib.hid (fun W => split_c n W h2 (by omega))
  rw [hk] at HH
  have q0 : ¬ n = 0 := by omega
  have q1 : ¬ n = 1 := by omega
  obtain ⟨S, hS⟩ : ∃ S, S = rootS ds := ⟨_, rfl⟩
  have HS := Lib.hid (show D32 S from by rw [hS]; exact d32_root _ hr.2.1)
  have HSE := Lib.hid (show nodeS (rootS (ds.take k)) (rootS (ds.drop k)) = S from by rw [hS, rootS_more ds (by rw [hr.1]; exact h2), hr.1, hk])
  rw [← hS]
  clear hS hr ih hk ht
  go_enter Tryd.func32, Tryd.ntmps32
  go_upto_region 1 with fail
  refine gen_code (F := fun W => Brow W w.heap.size 32 zs32 ∧ Below w.heap.size w W) ⟨heap_new _ _, (Below.refl _ _).alloc (Nat.le_refl _) _⟩ ?_
  rintro wA ⟨hd, hb⟩
  have HD := Lib.hid hd.drew
  have HB := Lib.hid (show Below w.heap.size w wA.drew from hb.drew)
  clear hd hb
  obtain ⟨X, hX⟩ : ∃ X, X = rootS (ds.take k) := ⟨_, rfl⟩
  obtain ⟨Y, hY⟩ : ∃ Y, Y = rootS (ds.drop k) := ⟨_, rfl⟩
  rw [← hX, ← hY] at HSE
  have HX := Lib.hid (show D32 X from by rw [hX]; exact d32_root _ (d32_take HR.out.2.1 k))
  have HY := Lib.hid (show D32 Y from by rw [hY]; exact d32_root _ (d32_drop HR.out.2.1 k))
  have HCX := Lib.hid (show ∀ W, DR W a n ds → Tab W → Calls Tryd.prog 32 #[.slice a k cap] W (DigRet X W) from fun W hW hT => by rw [hX]; exact HIH.out k hkn _ a cap W (hW.take k (by omega)) (by omega) hcm hT)
  have HCY := Lib.hid (show ∀ W, DR W a n ds → Tab W → Calls Tryd.prog 32 #[.slice (sld a cap k) (n - k) (cap - k)] W (DigRet Y W) from fun W hW hT => by rw [hY]; exact HIH.out (n - k) (by omega) _ _ (cap - k) W (hW.drop cap k (by omega) hlc) (by omega) (by omega) hT)
  clear hX hY HIH
  have HNODE := Lib.hid (fun W (hT : Tab W) => node_c X Y W HX.out HY.out hT)
  rw [HSE.out] at HNODE
  go_upto_region 7 with (first | (go_at_call 51; refine (HH.out _).mono ?_; rintro e wb ⟨rfl, rfl⟩))
  (try dsimp only [Act.put, List.setIfInBounds_toArray, List.set_cons_zero, List.set_cons_succ])
  refine wp_region_any (by kernel_rfl) ?_
  change wpAny _ _ _ _ _ _ _ wA.drew
  refine any_move 0 (d := 17) (x := .tmp 0) (.slice a n cap) (by rfl) (by kernel_rfl) (by kernel_rfl) (by kernel_rfl) (fun _ _ _ h => h) (by rfl) ?_
  simp only [Act.put, List.setIfInBounds_toArray, List.set_cons_zero, List.set_cons_succ]
  refine any_move 1 (d := 18) (x := .tmp 3) (.int .i64 (k : Int)) (by rfl) (by kernel_rfl) (by kernel_rfl) (by kernel_rfl) (fun _ _ _ h => h) (by rfl) ?_
  simp only [Act.put, List.setIfInBounds_toArray, List.set_cons_zero, List.set_cons_succ]
  refine any_dhead dtA 2 (d := 19) (x := .tmp 17) (y := .tmp 18) a n cap k (by omega) (by rfl) (by kernel_rfl) (by kernel_rfl) (by kernel_rfl) (fun _ _ _ h => h) (by rfl) (by rfl) ?_
  simp only [Act.put, List.setIfInBounds_toArray, List.set_cons_zero, List.set_cons_succ]
  refine any_move 4 (d := 21) (x := .tmp 0) (.slice a n cap) (by rfl) (by kernel_rfl) (by kernel_rfl) (by kernel_rfl) (fun _ _ _ h => h) (by rfl) ?_
  simp only [Act.put, List.setIfInBounds_toArray, List.set_cons_zero, List.set_cons_succ]
  refine any_move 5 (d := 22) (x := .tmp 3) (.int .i64 (k : Int)) (by rfl) (by kernel_rfl) (by kernel_rfl) (by kernel_rfl) (fun _ _ _ h => h) (by rfl) ?_
  simp only [Act.put, List.setIfInBounds_toArray, List.set_cons_zero, List.set_cons_succ]
  refine any_dcut dtA 6 (d := 23) (x := .tmp 21) (y := .tmp 22) a n cap k (by omega) (by rfl) (by kernel_rfl) (by kernel_rfl) (by kernel_rfl) (fun _ _ _ h => h) (by rfl) (by rfl) ?_
  simp only [Act.put, List.setIfInBounds_toArray, List.set_cons_zero, List.set_cons_succ]
  refine any_call 3 (d := some 20) (f := 32) (xs := #[.tmp 19]) (ts := #[28]) (vs := #[.slice a k cap]) (by kernel_rfl) (by rfl) (by go_simp) (by go_simp) (HCX.out _ (HR.out.below HB.out) (HT.out.below HB.out hpos)) ?_
  rintro e w1 ⟨rfl, hb1⟩
  refine ⟨_, rfl, ?_⟩
  simp only [Act.put, List.setIfInBounds_toArray, List.set_cons_zero, List.set_cons_succ]
  have HD1 := Lib.hid (HD.out.below hb1 HD.out.lt)
  have HB1 := Lib.hid (HB.out.trans (hb1.mono HB.out.size))
  clear hb1
  refine any_call 7 (d := some 24) (f := 32) (xs := #[.tmp 23]) (ts := #[28]) (vs := #[.slice (sld a cap k) (n - k) (cap - k)]) (by kernel_rfl) (by rfl) (by go_simp) (by go_simp) (HCY.out _ (HR.out.below HB1.out) (HT.out.below HB1.out hpos)) ?_
  rintro e w2 ⟨rfl, hb2⟩
  refine ⟨_, rfl, ?_⟩
  simp only [Act.put, List.setIfInBounds_toArray, List.set_cons_zero, List.set_cons_succ]
  have HD2 := Lib.hid (HD1.out.below hb2 HD1.out.lt)
  have HB2 := Lib.hid (HB1.out.trans (hb2.mono HB1.out.size))
  clear hb2
  refine any_call 8 (d := some 25) (f := 33) (xs := #[.tmp 20, .tmp 24]) (ts := #[32, 32]) (vs := #[.agg (cellsOf X).toArray, .agg (cellsOf Y).toArray]) (by kernel_rfl) (by rfl) (by go_simp) (by go_simp) (HNODE.out _ (HT.out.below HB2.out hpos)) ?_
  rintro e w3 ⟨rfl, hb3⟩
  refine ⟨_, rfl, ?_⟩
  simp only [Act.put, List.setIfInBounds_toArray, List.set_cons_zero, List.set_cons_succ]
  have HD3 := Lib.hid (HD2.out.below hb3 HD2.out.lt)
  have HB3 := Lib.hid (HB2.out.trans (hb3.mono HB2.out.size))
  have HI := Lib.hid (info32 dtA HS.out)
  have hsz : (cellsOf S).toArray.size = zs32.length := by rw [cellsOf_size, HS.out.1, zs32_len]
  have HTH := Lib.hid (HD3.out.there _ hsz)
  clear hb3 hsz
  refine any_store_mid 9 (ty := 32) (x := .tmp 2) (y := .tmp 25) w.heap.size 0 (cellsOf S).toArray (by kernel_rfl) (by rfl) (by rfl) (by rfl) HTH.out HI.out (cellsOf_all _) ?_
  rw [List.toList_toArray]
  have HD4 := Lib.hid (HD3.out.setAll (ys := S) (by rw [HS.out.1, zs32_len]))
  have HB4 := Lib.hid (HB3.out.trans ((Only.setCells (cellsOf S) 0 (Only.refl w.heap.size w3)).below (Nat.le_refl _) HB3.out.size))
  refine wpAny_done (by kernel_rfl) ?_ _
  refine gen_exit (F := fun W => Brow W w.heap.size 32 S ∧ Below w.heap.size w W) ⟨HD4.out, HB4.out⟩ ?_
  rintro w4 ⟨hd, hb⟩
  have HD5 := Lib.hid hd
  have HB5 := Lib.hid hb
  clear hd hb
  go_wp2
  refine bodyPost_ret (results_cell_row (by rfl) _ _ w.heap.size _ (cellsOf S).toArray (0, 0) _ (by rfl) HD5.out Tryd.underlying32 (by rfl) HI.out) ?_ ?_
  · rfl
  · exact ⟨rfl, HB5.out⟩
theorem root_c : ∀ (n : Nat) (ds : Ds) (a : Option Addr) (cap : Nat) (w : World), DR w a n ds → n ≤ cap → cap ≤ 9223372036854775807 → Tab w →
    Calls Tryd.prog 32 #[.slice a n cap] w (DigRet (rootS ds) w) := by
  intro n
  induction n using Nat.strongRecOn with
  | ind n ih =>
    intro ds a cap w hr hlc hcm ht
    by_cases h0 : n = 0
    · subst h0
      rw [hr.zero, rootS_nil]
      exact root_0 a cap w ht
    · by_cases h1 : n = 1
      · subst h1
        obtain ⟨d, rfl⟩ := List.length_eq_one_iff.1 hr.1
        obtain ⟨b, o, rfl, hb, hc⟩ := hr.at 0 (by omega)
        rw [rootS_one]
        exact root_1 b o cap d w (hr.2.1 d (by simp)) hb (by simpa using hc)
      · exact root_2 n _ ih ds a cap w hr hlc hcm ht (by omega) rfl
end Go.Proofs.YtlnblfdddellmaaDoor
