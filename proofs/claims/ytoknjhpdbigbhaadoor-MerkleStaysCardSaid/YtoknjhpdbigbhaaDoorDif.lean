/-
  The walk over the document's Differ, where two lists have one root.
-/
import Derived.Test.YtoknjhpdbigbhaaDoorFds
namespace Go.Proofs.YtoknjhpdbigbhaaDoor
open Go.RowKit
set_option linter.unusedVariables false
section
variable {P : Program} {ops : Array Oper} {Q : Exit → Act → World → Prop} {md : Region.Mode} {S : World → Prop}
theorem op_at (i : Nat) {d : Option Tmp} {op : Op} {a : Act} {w : World} {K : Act → World → Prop} (hi : (ops[i]?.map fun o => (o.dst, o.op, o.guard)) = some (d, op, none))
    (h : ∀ o : Oper, o.dst = d → o.op = op → o.wp P a w K Q) : wpOp P ops Q i K a w := by
  cases ho : ops[i]? with
  | none => simp [ho] at hi
  | some o =>
    simp only [ho, Option.map_some, Option.some.injEq, Prod.mk.injEq] at hi
    obtain ⟨g1, g2, g3⟩ := hi
    unfold wpOp
    simp only [ho, wanted_plain g3, if_true]
    exact .inl (h o g1 g2)
theorem gen_anyH {fuel : Nat} {listed : Array Bool} {a : Act} {W : World} {F : World → Prop} (h : F W) (k : ∀ w, F w → wpAnyH P md ops Q S fuel listed a w) : wpAnyH P md ops Q S fuel listed a W := k W h
end
theorem run_alloc_32 (a : Act) (o : Oper) (ho : o.op = .alloc 31) (W : World) : (execOp a.eval o).run Tryd.prog W = .ok (.value (.pointer (some ⟨W.heap.size, 0, none⟩))) (W.alloc (.cells (cellsOf zs32).toArray 31)) := by
  unfold execOp
  simp only [ho]
  kernel_rfl
theorem wp_alloc_32 {o : Oper} {a : Act} {w : World} {K : Act → World → Prop} {Q : Exit → Act → World → Prop} (ho : o.op = .alloc 31)
    (h : K (a.put o.dst (.pointer (some ⟨w.heap.size, 0, none⟩))) (w.alloc (.cells (cellsOf zs32).toArray 31))) : o.wp Tryd.prog a w K Q := by
  unfold Oper.wp
  rw [run_alloc_32 a o ho w]
  exact h
/-- sums that were laid since w, all below B0 -/
def SD (w : World) (B0 : Nat) (rows : List (Nat × List Nat)) (W : World) : Prop := Below w.heap.size w W ∧ (∀ p ∈ rows, p.1 < B0 ∧ Brow W p.1 31 p.2) ∧ B0 ≤ W.heap.size ∧ w.heap.size ≤ B0
theorem SD.step {w W W' : World} {B0 : Nat} {rows : List (Nat × List Nat)} (h : SD w B0 rows W) (hb : Below W.heap.size W W') : SD w B0 rows W' :=
  ⟨h.1.trans (hb.mono h.1.size), fun p hp => ⟨(h.2.1 p hp).1, (h.2.1 p hp).2.below hb (h.2.1 p hp).2.lt⟩, Nat.le_trans h.2.2.1 hb.size, h.2.2.2⟩
theorem SD.drew {w W : World} {B0 : Nat} {rows : List (Nat × List Nat)} (h : SD w B0 rows W) : SD w B0 rows W.drew := ⟨h.1.drew, fun p hp => ⟨(h.2.1 p hp).1, (h.2.1 p hp).2.drew⟩, h.2.2⟩
theorem SD.only {w W W' : World} {B0 g : Nat} {rows : List (Nat × List Nat)} (h : SD w B0 rows W) (ho : Only g W W') (hg : B0 ≤ g) : SD w B0 rows W' :=
  have hb := ho.below (Nat.le_trans h.2.2.2 hg) h.1.size
  ⟨h.1.trans hb, fun p hp => ⟨(h.2.1 p hp).1, (h.2.1 p hp).2.only ho (by have := (h.2.1 p hp).1; omega)⟩, Nat.le_trans h.2.2.1 hb.size, h.2.2.2⟩
theorem SD.new (w : World) : SD w w.heap.size [] w := ⟨Below.refl _ _, by simp, Nat.le_refl _, Nat.le_refl _⟩
/-- two more -/
theorem SD.more {w W : World} {B0 g1 g2 : Nat} {x y : List Nat} {rows : List (Nat × List Nat)} (h : SD w B0 rows W) (h1 : Brow W g1 31 x) (h2 : Brow W g2 31 y) : SD w W.heap.size ((g1, x) :: (g2, y) :: rows) W := by
  refine ⟨h.1, fun p hp => ?_, Nat.le_refl _, Nat.le_trans h.2.2.2 h.2.2.1⟩
  rcases List.mem_cons.1 hp with rfl | hp
  · exact ⟨h1.lt, h1⟩
  rcases List.mem_cons.1 hp with rfl | hp
  · exact ⟨h2.lt, h2⟩
  · exact ⟨Nat.lt_of_lt_of_le (h.2.1 p hp).1 h.2.2.1, (h.2.1 p hp).2⟩
def DIH (n : Nat) : Prop := ∀ q, q < n → ∀ (a b : Ds) (aa : Option Addr) (ac : Nat) (ba : Option Addr) (bc : Nat) (w : World), DR w aa q a → q ≤ ac → ac ≤ 9223372036854775807 → DR w ba q b → q ≤ bc → bc ≤ 9223372036854775807 → rootS a = rootS b → a ≠ b →
  Calls Tryd.prog 35 #[.slice aa q ac, .slice ba q bc] w (RetTrue w)
set_option maxRecDepth 100000 in
set_option maxHeartbeats 16000000 in
theorem dif_g (n k : Nat) (ih : DIH n) (a b : Ds) (aa : Option Addr) (ac : Nat) (ba : Option Addr) (bc : Nat) (w : World) (h2 : 2 ≤ n) (hn : n ≤ 4398046511104) (hk : Mk.half n = k) (ha : DR w aa n a) (hac : n ≤ ac) (ham : ac ≤ 9223372036854775807) (hb : DR w ba n b) (hbc : n ≤ bc) (hbm : bc ≤ 9223372036854775807) (hr : rootS a = rootS b) (hne : a ≠ b) :
    Calls Tryd.prog 35 #[.slice aa n ac, .slice ba n bc] w (RetTrue w) := by
  have hk0 : 0 < k := by rw [← hk]; exact Mk.half_pos n
  have hkn : k < n := by rw [← hk]; exact Mk.half_lt n h2
  have hra : rootS a = nodeS (rootS (a.take k)) (rootS (a.drop k)) := by rw [rootS_more a (by rw [ha.1]; omega), ha.1, hk]
  have hrb : rootS b = nodeS (rootS (b.take k)) (rootS (b.drop k)) := by rw [rootS_more b (by rw [hb.1]; omega), hb.1, hk]
  rw [hra, hrb] at hr
  have HH := Lib.hid (fun W => rhalf_c n W h2 (by omega))
  rw [hk] at HH
  obtain ⟨X, hX⟩ : ∃ X, X = rootS (a.take k) := ⟨_, rfl⟩
  obtain ⟨Y, hY⟩ : ∃ Y, Y = rootS (a.drop k) := ⟨_, rfl⟩
  obtain ⟨U, hU⟩ : ∃ U, U = rootS (b.take k) := ⟨_, rfl⟩
  obtain ⟨V, hV⟩ : ∃ V, V = rootS (b.drop k) := ⟨_, rfl⟩
  rw [← hX, ← hY, ← hU, ← hV] at hr
  have HR := Lib.hid hr
  have HXD := Lib.hid (show D32 X from by rw [hX]; exact d32_root _ (d32_take ha.2.1 _))
  have HYD := Lib.hid (show D32 Y from by rw [hY]; exact d32_root _ (d32_drop ha.2.1 _))
  have HUD := Lib.hid (show D32 U from by rw [hU]; exact d32_root _ (d32_take hb.2.1 _))
  have HVD := Lib.hid (show D32 V from by rw [hV]; exact d32_root _ (d32_drop hb.2.1 _))
  have HX := Lib.hid (show ∀ W, Below w.heap.size w W → Calls Tryd.prog 12 #[.slice aa k ac] W (DigRet X W) from fun W hW => by rw [hX]; exact rroot_c k _ _ _ W ((ha.below hW).take k (by omega)) (by omega) (by omega))
  have HY := Lib.hid (show ∀ W, Below w.heap.size w W → Calls Tryd.prog 12 #[.slice (sld aa ac k) (n - k) (ac - k)] W (DigRet Y W) from fun W hW => by rw [hY]; exact rroot_c (n - k) _ _ _ W ((ha.below hW).drop ac k (by omega) hac) (by omega) (by omega))
  have HU := Lib.hid (show ∀ W, Below w.heap.size w W → Calls Tryd.prog 12 #[.slice ba k bc] W (DigRet U W) from fun W hW => by rw [hU]; exact rroot_c k _ _ _ W ((hb.below hW).take k (by omega)) (by omega) (by omega))
  have HV := Lib.hid (show ∀ W, Below w.heap.size w W → Calls Tryd.prog 12 #[.slice (sld ba bc k) (n - k) (bc - k)] W (DigRet V W) from fun W hW => by rw [hV]; exact rroot_c (n - k) _ _ _ W ((hb.below hW).drop bc k (by omega) hbc) (by omega) (by omega))
  have HL := Lib.hid (show X = U → Y = V → a.take k ≠ b.take k → ∀ W, Below w.heap.size w W → Calls Tryd.prog 35 #[.slice aa k ac, .slice ba k bc] W (RetTrue W) from fun e1 e2 e3 W hW => ih k hkn _ _ _ _ _ _ W ((ha.below hW).take k (by omega)) (by omega) ham ((hb.below hW).take k (by omega)) (by omega) hbm (by rw [← hX, ← hU, e1]) e3)
  have HM := Lib.hid (show X = U → Y = V → a.take k = b.take k → ∀ W, Below w.heap.size w W → Calls Tryd.prog 35 #[.slice (sld aa ac k) (n - k) (ac - k), .slice (sld ba bc k) (n - k) (bc - k)] W (RetTrue W) from fun e1 e2 e3 W hW => ih (n - k) (by omega) _ _ _ _ _ _ W ((ha.below hW).drop ac k (by omega) hac) (by omega) (by omega) ((hb.below hW).drop bc k (by omega) hbc) (by omega) (by omega) (by rw [← hY, ← hV, e2]) (fun h4 => hne (by rw [← List.take_append_drop k a, ← List.take_append_drop k b, e3, h4])))
  have HSAME := Lib.hid (show ∀ W, Below w.heap.size w W → Calls Tryd.prog 13 #[.slice aa k ac, .slice ba k bc] W (fun e w' => e = .returned (.bool (decide (a.take k = b.take k))) ∧ Below W.heap.size W w') from fun W hW => dsame_c k k (by omega) aa ba ac bc _ _ W ((ha.below hW).take k (by omega)) ((hb.below hW).take k (by omega)))
  have HGT := Lib.hid (show Tryd.prog.eqGuardType Tryd.prog.depth 31 = false by kernel_rfl)
  have HQ1 := Lib.hid (fun W => eqDD dtR W HXD.out HUD.out)
  have HQ2 := Lib.hid (fun W => eqDD dtR W HYD.out HVD.out)
  have HNEQ := Lib.hid (show X ≠ U ∨ Y ≠ V → pairL X Y ≠ pairL U V from fun h he => by
    obtain ⟨e1, e2⟩ := pairL_inj he (by rw [HXD.out.1, HUD.out.1])
    exact h.elim (· e1) (· e2))
  have q0 : ¬ (n : Int) < 2 := by omega
  clear ih ha hb hr hra hrb hX hY hU hV hk hne
  go_enter Tryd.func35, Tryd.ntmps35
  go_upto_region 4 with (go_at_call 30; refine (HH.out _).mono ?_; rintro e wb ⟨rfl, rfl⟩)
  have HS := Lib.hid (SD.new w).drew
  go_cut [6, 7] from 8 (fun s6 s7 wx => ∃ g6 g7 : Nat, s6 = .pointer (some ⟨g6, 0, none⟩) ∧ s7 = .pointer (some ⟨g7, 0, none⟩) ∧ Hid (SD w w.heap.size [] wx ∧ Brow wx g6 31 X ∧ Brow wx g7 31 Y))
  case first =>
    (try dsimp only [Act.put, List.setIfInBounds_toArray, List.set_cons_zero, List.set_cons_succ])
    refine anyH_begin (S := SD w w.heap.size []) (by kernel_rfl) ?_
    refine anyH_pureG 0 (d := 23) (op := .move (.tmp 0)) (gd := none) (.slice aa n ac) (by rfl) (fun o ho => wanted_plain ho _) (by kernel_rfl) (by kernel_rfl) (by kernel_rfl) (fun _ _ _ h => h) (fun o ho W hW => by unfold execOp; simp only [ho]; go_simp) HS.out ?_
    simp only [Act.put, List.setIfInBounds_toArray, List.set_cons_zero, List.set_cons_succ]
    refine anyH_pureG 1 (d := 24) (op := .move (.tmp 5)) (gd := none) (.int .i64 (k : Int)) (by rfl) (fun o ho => wanted_plain ho _) (by kernel_rfl) (by kernel_rfl) (by kernel_rfl) (fun _ _ _ h => h) (fun o ho W hW => by unfold execOp; simp only [ho]; go_simp) HS.out ?_
    simp only [Act.put, List.setIfInBounds_toArray, List.set_cons_zero, List.set_cons_succ]
    refine anyH_pureG 2 (d := 25) (op := .slice 22 (.tmp 23) none (some (.tmp 24)) none) (gd := none) (.slice aa k ac) (by rfl) (fun o ho => wanted_plain ho _) (by kernel_rfl) (by kernel_rfl) (by kernel_rfl) (fun _ _ _ h => h) (fun o ho W hW => exec_dhead dtR (x := .tmp 23) (y := .tmp 24) aa n ac k (by omega) _ (by rfl) (by rfl) o ho W) HS.out ?_
    simp only [Act.put, List.setIfInBounds_toArray, List.set_cons_zero, List.set_cons_succ]
    refine anyH_pureG 4 (d := 27) (op := .move (.tmp 0)) (gd := none) (.slice aa n ac) (by rfl) (fun o ho => wanted_plain ho _) (by kernel_rfl) (by kernel_rfl) (by kernel_rfl) (fun _ _ _ h => h) (fun o ho W hW => by unfold execOp; simp only [ho]; go_simp) HS.out ?_
    simp only [Act.put, List.setIfInBounds_toArray, List.set_cons_zero, List.set_cons_succ]
    refine anyH_pureG 5 (d := 28) (op := .move (.tmp 5)) (gd := none) (.int .i64 (k : Int)) (by rfl) (fun o ho => wanted_plain ho _) (by kernel_rfl) (by kernel_rfl) (by kernel_rfl) (fun _ _ _ h => h) (fun o ho W hW => by unfold execOp; simp only [ho]; go_simp) HS.out ?_
    simp only [Act.put, List.setIfInBounds_toArray, List.set_cons_zero, List.set_cons_succ]
    refine anyH_pureG 6 (d := 29) (op := .slice 22 (.tmp 27) (some (.tmp 28)) none none) (gd := none) (.slice (sld aa ac k) (n - k) (ac - k)) (by rfl) (fun o ho => wanted_plain ho _) (by kernel_rfl) (by kernel_rfl) (by kernel_rfl) (fun _ _ _ h => h) (fun o ho W hW => exec_dcut dtR (x := .tmp 27) (y := .tmp 28) aa n ac k (by omega) _ (by rfl) (by rfl) o ho W) HS.out ?_
    simp only [Act.put, List.setIfInBounds_toArray, List.set_cons_zero, List.set_cons_succ]
    refine wpAnyH_all (rs := [3, 8, 9]) (by kernel_rfl) (by simp) ?_
    intro k hk; simp only [List.mem_cons, List.not_mem_nil, or_false] at hk; rcases hk with rfl | rfl | rfl
    · refine op_at 3 (d := some 26) (op := .call { callee := .value (.func 12), args := #[(.tmp 25)], argTypes := #[22] }) (by rfl) ?_
      intro o0 hod hoo
      refine wp_call_fn (R := _) hoo (vs := #[.slice aa k ac]) (by go_simp) (by go_simp) (HX.out w.drew HS.out.1) ?_
      rintro e w1 ⟨rfl, hb⟩
      refine ⟨_, rfl, HS.out.step hb, ?_⟩
      rw [hod]
      have HS := Lib.hid (HS.out.step hb)
      clear hod hoo hb
      simp only [Act.put, List.setIfInBounds_toArray, List.set_cons_zero, List.set_cons_succ]
      refine wpAnyH_all (rs := [7, 8, 9]) (by kernel_rfl) (by simp) ?_
      intro k hk; simp only [List.mem_cons, List.not_mem_nil, or_false] at hk; rcases hk with rfl | rfl | rfl
      · refine op_at 7 (d := some 30) (op := .call { callee := .value (.func 12), args := #[(.tmp 29)], argTypes := #[22] }) (by rfl) ?_
        intro o0 hod hoo
        refine wp_call_fn (R := _) hoo (vs := #[.slice (sld aa ac k) (n - k) (ac - k)]) (by go_simp) (by go_simp) (HY.out w1 HS.out.1) ?_
        rintro e w2 ⟨rfl, hb⟩
        refine ⟨_, rfl, HS.out.step hb, ?_⟩
        rw [hod]
        have HS := Lib.hid (HS.out.step hb)
        clear hod hoo hb
        simp only [Act.put, List.setIfInBounds_toArray, List.set_cons_zero, List.set_cons_succ]
        refine wpAnyH_all (rs := [8, 9]) (by kernel_rfl) (by simp) ?_
        intro k hk; simp only [List.mem_cons, List.not_mem_nil, or_false] at hk; rcases hk with rfl | rfl
        · refine op_at 8 (d := some 6) (op := .alloc 31) (by rfl) ?_
          intro o0 hod hoo
          refine wp_alloc_32 hoo ?_
          have hb : Below w2.heap.size w2 (w2.alloc (.cells (cellsOf zs32).toArray 31)) := (Below.refl _ _).alloc (Nat.le_refl _) _
          refine ⟨HS.out.step hb, ?_⟩
          rw [hod]
          obtain ⟨g6, hg6⟩ : ∃ g, g = w2.heap.size := ⟨_, rfl⟩
          rw [← hg6]
          refine gen_anyH (F := fun W => Brow W g6 31 zs32 ∧ SD w w.heap.size [] W) ⟨(by rw [hg6]; exact heap_new _ _), (HS.out.step hb)⟩ ?_
          have hNg6 : w.heap.size ≤ g6 := by have := HS.out.2.2.1; omega
          rintro w3 ⟨ha, hs⟩
          clear hg6 hb hod hoo HS
          have H6 := Lib.hid ha
          have HS := Lib.hid hs
          clear ha hs
          simp only [Act.put, List.setIfInBounds_toArray, List.set_cons_zero, List.set_cons_succ]
          refine wpAnyH_all (rs := [9]) (by kernel_rfl) (by simp) ?_
          intro k hk; simp only [List.mem_cons, List.not_mem_nil, or_false] at hk; subst hk
          refine op_at 9 (d := some 7) (op := .alloc 31) (by rfl) ?_
          intro o0 hod hoo
          refine wp_alloc_32 hoo ?_
          have hb : Below w3.heap.size w3 (w3.alloc (.cells (cellsOf zs32).toArray 31)) := (Below.refl _ _).alloc (Nat.le_refl _) _
          refine ⟨HS.out.step hb, ?_⟩
          rw [hod]
          obtain ⟨g7, hg7⟩ : ∃ g, g = w3.heap.size := ⟨_, rfl⟩
          rw [← hg7]
          refine gen_anyH (F := fun W => Brow W g7 31 zs32 ∧ SD w w.heap.size [] W ∧ Brow W g6 31 zs32) ⟨(by rw [hg7]; exact heap_new _ _), (HS.out.step hb), (H6.out.below hb H6.out.lt)⟩ ?_
          have hneg6 : g6 ≠ g7 := by have := H6.out.lt; omega
          have hNg7 : w.heap.size ≤ g7 := by have := HS.out.2.2.1; omega
          rintro w4 ⟨ha, hs, hH6⟩
          clear hg7 hb hod hoo HS
          have H7 := Lib.hid ha
          have HS := Lib.hid hs
          have H6 := Lib.hid hH6
          clear ha hs hH6
          simp only [Act.put, List.setIfInBounds_toArray, List.set_cons_zero, List.set_cons_succ]
          have hdd : g6 ≠ g7 := by first | assumption | (intro h; exact absurd h.symm (by assumption))
          refine wpAnyH_all (rs := [10]) (by kernel_rfl) (by simp) ?_
          intro k hk; simp only [List.mem_cons, List.not_mem_nil, or_false] at hk; subst hk
          refine op_at 10 (d := none) (op := .store 31 (.tmp 6) (.tmp 26)) (by rfl) ?_
          intro o0 hod hoo
          refine wp_store_mid 31 (.tmp 6) (.tmp 26) hoo g6 0 (cellsOf X).toArray (by rfl) (by rfl) (H6.out.there _ (by rw [cellsOf_size, HXD.out.1]; rfl)) (info32 dtR HXD.out) (cellsOf_all _) ?_
          rw [hod, List.toList_toArray]
          have ho : Only g6 w4 (w4.setCells g6 0 (cellsOf X)) := Only.setCells (cellsOf X) 0 (Only.refl _ _)
          refine ⟨HS.out.only ho hNg6, ?_⟩
          refine gen_anyH (F := fun W => SD w w.heap.size [] W ∧ Brow W g6 31 X ∧ Brow W g7 31 zs32) ⟨HS.out.only ho hNg6, H6.out.setAll (by rw [HXD.out.1]; rfl), H7.out.only ho (Ne.symm hdd)⟩ ?_
          rintro w5 ⟨hs, ha, hb⟩
          clear hod hoo ho HS H6 H7
          have HS := Lib.hid hs
          have H6 := Lib.hid ha
          have H7 := Lib.hid hb
          clear hs ha hb
          simp only [Act.put]
          refine wpAnyH_all (rs := [11]) (by kernel_rfl) (by simp) ?_
          intro k hk; simp only [List.mem_cons, List.not_mem_nil, or_false] at hk; subst hk
          refine op_at 11 (d := none) (op := .store 31 (.tmp 7) (.tmp 30)) (by rfl) ?_
          intro o0 hod hoo
          refine wp_store_mid 31 (.tmp 7) (.tmp 30) hoo g7 0 (cellsOf Y).toArray (by rfl) (by rfl) (H7.out.there _ (by rw [cellsOf_size, HYD.out.1]; rfl)) (info32 dtR HYD.out) (cellsOf_all _) ?_
          rw [hod, List.toList_toArray]
          have ho : Only g7 w5 (w5.setCells g7 0 (cellsOf Y)) := Only.setCells (cellsOf Y) 0 (Only.refl _ _)
          refine ⟨HS.out.only ho hNg7, ?_⟩
          refine gen_anyH (F := fun W => SD w w.heap.size [] W ∧ Brow W g6 31 X ∧ Brow W g7 31 Y) ⟨HS.out.only ho hNg7, H6.out.only ho hdd, H7.out.setAll (by rw [HYD.out.1]; rfl)⟩ ?_
          intro w6 hf
          have HF := Lib.hid hf
          clear hod hoo ho hf HS H6 H7
          simp only [Act.put]
          refine wpAnyH_done (by kernel_rfl) ?_ _
          go_wp2_with fail
          go_meet
          exact ⟨g6, g7, rfl, rfl, HF⟩
        · refine op_at 9 (d := some 7) (op := .alloc 31) (by rfl) ?_
          intro o0 hod hoo
          refine wp_alloc_32 hoo ?_
          have hb : Below w2.heap.size w2 (w2.alloc (.cells (cellsOf zs32).toArray 31)) := (Below.refl _ _).alloc (Nat.le_refl _) _
          refine ⟨HS.out.step hb, ?_⟩
          rw [hod]
          obtain ⟨g7, hg7⟩ : ∃ g, g = w2.heap.size := ⟨_, rfl⟩
          rw [← hg7]
          refine gen_anyH (F := fun W => Brow W g7 31 zs32 ∧ SD w w.heap.size [] W) ⟨(by rw [hg7]; exact heap_new _ _), (HS.out.step hb)⟩ ?_
          have hNg7 : w.heap.size ≤ g7 := by have := HS.out.2.2.1; omega
          rintro w7 ⟨ha, hs⟩
          clear hg7 hb hod hoo HS
          have H7 := Lib.hid ha
          have HS := Lib.hid hs
          clear ha hs
          simp only [Act.put, List.setIfInBounds_toArray, List.set_cons_zero, List.set_cons_succ]
          refine wpAnyH_all (rs := [8]) (by kernel_rfl) (by simp) ?_
          intro k hk; simp only [List.mem_cons, List.not_mem_nil, or_false] at hk; subst hk
          refine op_at 8 (d := some 6) (op := .alloc 31) (by rfl) ?_
          intro o0 hod hoo
          refine wp_alloc_32 hoo ?_
          have hb : Below w7.heap.size w7 (w7.alloc (.cells (cellsOf zs32).toArray 31)) := (Below.refl _ _).alloc (Nat.le_refl _) _
          refine ⟨HS.out.step hb, ?_⟩
          rw [hod]
          obtain ⟨g6, hg6⟩ : ∃ g, g = w7.heap.size := ⟨_, rfl⟩
          rw [← hg6]
          refine gen_anyH (F := fun W => Brow W g6 31 zs32 ∧ SD w w.heap.size [] W ∧ Brow W g7 31 zs32) ⟨(by rw [hg6]; exact heap_new _ _), (HS.out.step hb), (H7.out.below hb H7.out.lt)⟩ ?_
          have hneg7 : g7 ≠ g6 := by have := H7.out.lt; omega
          have hNg6 : w.heap.size ≤ g6 := by have := HS.out.2.2.1; omega
          rintro w8 ⟨ha, hs, hH7⟩
          clear hg6 hb hod hoo HS
          have H6 := Lib.hid ha
          have HS := Lib.hid hs
          have H7 := Lib.hid hH7
          clear ha hs hH7
          simp only [Act.put, List.setIfInBounds_toArray, List.set_cons_zero, List.set_cons_succ]
          have hdd : g6 ≠ g7 := by first | assumption | (intro h; exact absurd h.symm (by assumption))
          refine wpAnyH_all (rs := [10]) (by kernel_rfl) (by simp) ?_
          intro k hk; simp only [List.mem_cons, List.not_mem_nil, or_false] at hk; subst hk
          refine op_at 10 (d := none) (op := .store 31 (.tmp 6) (.tmp 26)) (by rfl) ?_
          intro o0 hod hoo
          refine wp_store_mid 31 (.tmp 6) (.tmp 26) hoo g6 0 (cellsOf X).toArray (by rfl) (by rfl) (H6.out.there _ (by rw [cellsOf_size, HXD.out.1]; rfl)) (info32 dtR HXD.out) (cellsOf_all _) ?_
          rw [hod, List.toList_toArray]
          have ho : Only g6 w8 (w8.setCells g6 0 (cellsOf X)) := Only.setCells (cellsOf X) 0 (Only.refl _ _)
          refine ⟨HS.out.only ho hNg6, ?_⟩
          refine gen_anyH (F := fun W => SD w w.heap.size [] W ∧ Brow W g6 31 X ∧ Brow W g7 31 zs32) ⟨HS.out.only ho hNg6, H6.out.setAll (by rw [HXD.out.1]; rfl), H7.out.only ho (Ne.symm hdd)⟩ ?_
          rintro w9 ⟨hs, ha, hb⟩
          clear hod hoo ho HS H6 H7
          have HS := Lib.hid hs
          have H6 := Lib.hid ha
          have H7 := Lib.hid hb
          clear hs ha hb
          simp only [Act.put]
          refine wpAnyH_all (rs := [11]) (by kernel_rfl) (by simp) ?_
          intro k hk; simp only [List.mem_cons, List.not_mem_nil, or_false] at hk; subst hk
          refine op_at 11 (d := none) (op := .store 31 (.tmp 7) (.tmp 30)) (by rfl) ?_
          intro o0 hod hoo
          refine wp_store_mid 31 (.tmp 7) (.tmp 30) hoo g7 0 (cellsOf Y).toArray (by rfl) (by rfl) (H7.out.there _ (by rw [cellsOf_size, HYD.out.1]; rfl)) (info32 dtR HYD.out) (cellsOf_all _) ?_
          rw [hod, List.toList_toArray]
          have ho : Only g7 w9 (w9.setCells g7 0 (cellsOf Y)) := Only.setCells (cellsOf Y) 0 (Only.refl _ _)
          refine ⟨HS.out.only ho hNg7, ?_⟩
          refine gen_anyH (F := fun W => SD w w.heap.size [] W ∧ Brow W g6 31 X ∧ Brow W g7 31 Y) ⟨HS.out.only ho hNg7, H6.out.only ho hdd, H7.out.setAll (by rw [HYD.out.1]; rfl)⟩ ?_
          intro w10 hf
          have HF := Lib.hid hf
          clear hod hoo ho hf HS H6 H7
          simp only [Act.put]
          refine wpAnyH_done (by kernel_rfl) ?_ _
          go_wp2_with fail
          go_meet
          exact ⟨g6, g7, rfl, rfl, HF⟩
      · refine op_at 8 (d := some 6) (op := .alloc 31) (by rfl) ?_
        intro o0 hod hoo
        refine wp_alloc_32 hoo ?_
        have hb : Below w1.heap.size w1 (w1.alloc (.cells (cellsOf zs32).toArray 31)) := (Below.refl _ _).alloc (Nat.le_refl _) _
        refine ⟨HS.out.step hb, ?_⟩
        rw [hod]
        obtain ⟨g6, hg6⟩ : ∃ g, g = w1.heap.size := ⟨_, rfl⟩
        rw [← hg6]
        refine gen_anyH (F := fun W => Brow W g6 31 zs32 ∧ SD w w.heap.size [] W) ⟨(by rw [hg6]; exact heap_new _ _), (HS.out.step hb)⟩ ?_
        have hNg6 : w.heap.size ≤ g6 := by have := HS.out.2.2.1; omega
        rintro w11 ⟨ha, hs⟩
        clear hg6 hb hod hoo HS
        have H6 := Lib.hid ha
        have HS := Lib.hid hs
        clear ha hs
        simp only [Act.put, List.setIfInBounds_toArray, List.set_cons_zero, List.set_cons_succ]
        refine wpAnyH_all (rs := [7, 9]) (by kernel_rfl) (by simp) ?_
        intro k hk; simp only [List.mem_cons, List.not_mem_nil, or_false] at hk; rcases hk with rfl | rfl
        · refine op_at 7 (d := some 30) (op := .call { callee := .value (.func 12), args := #[(.tmp 29)], argTypes := #[22] }) (by rfl) ?_
          intro o0 hod hoo
          refine wp_call_fn (R := _) hoo (vs := #[.slice (sld aa ac k) (n - k) (ac - k)]) (by go_simp) (by go_simp) (HY.out w11 HS.out.1) ?_
          rintro e w12 ⟨rfl, hb⟩
          refine ⟨_, rfl, HS.out.step hb, ?_⟩
          rw [hod]
          have H6 := Lib.hid (H6.out.below hb H6.out.lt)
          have HS := Lib.hid (HS.out.step hb)
          clear hod hoo hb
          simp only [Act.put, List.setIfInBounds_toArray, List.set_cons_zero, List.set_cons_succ]
          refine wpAnyH_all (rs := [9]) (by kernel_rfl) (by simp) ?_
          intro k hk; simp only [List.mem_cons, List.not_mem_nil, or_false] at hk; subst hk
          refine op_at 9 (d := some 7) (op := .alloc 31) (by rfl) ?_
          intro o0 hod hoo
          refine wp_alloc_32 hoo ?_
          have hb : Below w12.heap.size w12 (w12.alloc (.cells (cellsOf zs32).toArray 31)) := (Below.refl _ _).alloc (Nat.le_refl _) _
          refine ⟨HS.out.step hb, ?_⟩
          rw [hod]
          obtain ⟨g7, hg7⟩ : ∃ g, g = w12.heap.size := ⟨_, rfl⟩
          rw [← hg7]
          refine gen_anyH (F := fun W => Brow W g7 31 zs32 ∧ SD w w.heap.size [] W ∧ Brow W g6 31 zs32) ⟨(by rw [hg7]; exact heap_new _ _), (HS.out.step hb), (H6.out.below hb H6.out.lt)⟩ ?_
          have hneg6 : g6 ≠ g7 := by have := H6.out.lt; omega
          have hNg7 : w.heap.size ≤ g7 := by have := HS.out.2.2.1; omega
          rintro w13 ⟨ha, hs, hH6⟩
          clear hg7 hb hod hoo HS
          have H7 := Lib.hid ha
          have HS := Lib.hid hs
          have H6 := Lib.hid hH6
          clear ha hs hH6
          simp only [Act.put, List.setIfInBounds_toArray, List.set_cons_zero, List.set_cons_succ]
          have hdd : g6 ≠ g7 := by first | assumption | (intro h; exact absurd h.symm (by assumption))
          refine wpAnyH_all (rs := [10]) (by kernel_rfl) (by simp) ?_
          intro k hk; simp only [List.mem_cons, List.not_mem_nil, or_false] at hk; subst hk
          refine op_at 10 (d := none) (op := .store 31 (.tmp 6) (.tmp 26)) (by rfl) ?_
          intro o0 hod hoo
          refine wp_store_mid 31 (.tmp 6) (.tmp 26) hoo g6 0 (cellsOf X).toArray (by rfl) (by rfl) (H6.out.there _ (by rw [cellsOf_size, HXD.out.1]; rfl)) (info32 dtR HXD.out) (cellsOf_all _) ?_
          rw [hod, List.toList_toArray]
          have ho : Only g6 w13 (w13.setCells g6 0 (cellsOf X)) := Only.setCells (cellsOf X) 0 (Only.refl _ _)
          refine ⟨HS.out.only ho hNg6, ?_⟩
          refine gen_anyH (F := fun W => SD w w.heap.size [] W ∧ Brow W g6 31 X ∧ Brow W g7 31 zs32) ⟨HS.out.only ho hNg6, H6.out.setAll (by rw [HXD.out.1]; rfl), H7.out.only ho (Ne.symm hdd)⟩ ?_
          rintro w14 ⟨hs, ha, hb⟩
          clear hod hoo ho HS H6 H7
          have HS := Lib.hid hs
          have H6 := Lib.hid ha
          have H7 := Lib.hid hb
          clear hs ha hb
          simp only [Act.put]
          refine wpAnyH_all (rs := [11]) (by kernel_rfl) (by simp) ?_
          intro k hk; simp only [List.mem_cons, List.not_mem_nil, or_false] at hk; subst hk
          refine op_at 11 (d := none) (op := .store 31 (.tmp 7) (.tmp 30)) (by rfl) ?_
          intro o0 hod hoo
          refine wp_store_mid 31 (.tmp 7) (.tmp 30) hoo g7 0 (cellsOf Y).toArray (by rfl) (by rfl) (H7.out.there _ (by rw [cellsOf_size, HYD.out.1]; rfl)) (info32 dtR HYD.out) (cellsOf_all _) ?_
          rw [hod, List.toList_toArray]
          have ho : Only g7 w14 (w14.setCells g7 0 (cellsOf Y)) := Only.setCells (cellsOf Y) 0 (Only.refl _ _)
          refine ⟨HS.out.only ho hNg7, ?_⟩
          refine gen_anyH (F := fun W => SD w w.heap.size [] W ∧ Brow W g6 31 X ∧ Brow W g7 31 Y) ⟨HS.out.only ho hNg7, H6.out.only ho hdd, H7.out.setAll (by rw [HYD.out.1]; rfl)⟩ ?_
          intro w15 hf
          have HF := Lib.hid hf
          clear hod hoo ho hf HS H6 H7
          simp only [Act.put]
          refine wpAnyH_done (by kernel_rfl) ?_ _
          go_wp2_with fail
          go_meet
          exact ⟨g6, g7, rfl, rfl, HF⟩
        · refine op_at 9 (d := some 7) (op := .alloc 31) (by rfl) ?_
          intro o0 hod hoo
          refine wp_alloc_32 hoo ?_
          have hb : Below w11.heap.size w11 (w11.alloc (.cells (cellsOf zs32).toArray 31)) := (Below.refl _ _).alloc (Nat.le_refl _) _
          refine ⟨HS.out.step hb, ?_⟩
          rw [hod]
          obtain ⟨g7, hg7⟩ : ∃ g, g = w11.heap.size := ⟨_, rfl⟩
          rw [← hg7]
          refine gen_anyH (F := fun W => Brow W g7 31 zs32 ∧ SD w w.heap.size [] W ∧ Brow W g6 31 zs32) ⟨(by rw [hg7]; exact heap_new _ _), (HS.out.step hb), (H6.out.below hb H6.out.lt)⟩ ?_
          have hneg6 : g6 ≠ g7 := by have := H6.out.lt; omega
          have hNg7 : w.heap.size ≤ g7 := by have := HS.out.2.2.1; omega
          rintro w16 ⟨ha, hs, hH6⟩
          clear hg7 hb hod hoo HS
          have H7 := Lib.hid ha
          have HS := Lib.hid hs
          have H6 := Lib.hid hH6
          clear ha hs hH6
          simp only [Act.put, List.setIfInBounds_toArray, List.set_cons_zero, List.set_cons_succ]
          refine wpAnyH_all (rs := [7]) (by kernel_rfl) (by simp) ?_
          intro k hk; simp only [List.mem_cons, List.not_mem_nil, or_false] at hk; subst hk
          refine op_at 7 (d := some 30) (op := .call { callee := .value (.func 12), args := #[(.tmp 29)], argTypes := #[22] }) (by rfl) ?_
          intro o0 hod hoo
          refine wp_call_fn (R := _) hoo (vs := #[.slice (sld aa ac k) (n - k) (ac - k)]) (by go_simp) (by go_simp) (HY.out w16 HS.out.1) ?_
          rintro e w17 ⟨rfl, hb⟩
          refine ⟨_, rfl, HS.out.step hb, ?_⟩
          rw [hod]
          have H6 := Lib.hid (H6.out.below hb H6.out.lt)
          have H7 := Lib.hid (H7.out.below hb H7.out.lt)
          have HS := Lib.hid (HS.out.step hb)
          clear hod hoo hb
          simp only [Act.put, List.setIfInBounds_toArray, List.set_cons_zero, List.set_cons_succ]
          have hdd : g6 ≠ g7 := by first | assumption | (intro h; exact absurd h.symm (by assumption))
          refine wpAnyH_all (rs := [10]) (by kernel_rfl) (by simp) ?_
          intro k hk; simp only [List.mem_cons, List.not_mem_nil, or_false] at hk; subst hk
          refine op_at 10 (d := none) (op := .store 31 (.tmp 6) (.tmp 26)) (by rfl) ?_
          intro o0 hod hoo
          refine wp_store_mid 31 (.tmp 6) (.tmp 26) hoo g6 0 (cellsOf X).toArray (by rfl) (by rfl) (H6.out.there _ (by rw [cellsOf_size, HXD.out.1]; rfl)) (info32 dtR HXD.out) (cellsOf_all _) ?_
          rw [hod, List.toList_toArray]
          have ho : Only g6 w17 (w17.setCells g6 0 (cellsOf X)) := Only.setCells (cellsOf X) 0 (Only.refl _ _)
          refine ⟨HS.out.only ho hNg6, ?_⟩
          refine gen_anyH (F := fun W => SD w w.heap.size [] W ∧ Brow W g6 31 X ∧ Brow W g7 31 zs32) ⟨HS.out.only ho hNg6, H6.out.setAll (by rw [HXD.out.1]; rfl), H7.out.only ho (Ne.symm hdd)⟩ ?_
          rintro w18 ⟨hs, ha, hb⟩
          clear hod hoo ho HS H6 H7
          have HS := Lib.hid hs
          have H6 := Lib.hid ha
          have H7 := Lib.hid hb
          clear hs ha hb
          simp only [Act.put]
          refine wpAnyH_all (rs := [11]) (by kernel_rfl) (by simp) ?_
          intro k hk; simp only [List.mem_cons, List.not_mem_nil, or_false] at hk; subst hk
          refine op_at 11 (d := none) (op := .store 31 (.tmp 7) (.tmp 30)) (by rfl) ?_
          intro o0 hod hoo
          refine wp_store_mid 31 (.tmp 7) (.tmp 30) hoo g7 0 (cellsOf Y).toArray (by rfl) (by rfl) (H7.out.there _ (by rw [cellsOf_size, HYD.out.1]; rfl)) (info32 dtR HYD.out) (cellsOf_all _) ?_
          rw [hod, List.toList_toArray]
          have ho : Only g7 w18 (w18.setCells g7 0 (cellsOf Y)) := Only.setCells (cellsOf Y) 0 (Only.refl _ _)
          refine ⟨HS.out.only ho hNg7, ?_⟩
          refine gen_anyH (F := fun W => SD w w.heap.size [] W ∧ Brow W g6 31 X ∧ Brow W g7 31 Y) ⟨HS.out.only ho hNg7, H6.out.only ho hdd, H7.out.setAll (by rw [HYD.out.1]; rfl)⟩ ?_
          intro w19 hf
          have HF := Lib.hid hf
          clear hod hoo ho hf HS H6 H7
          simp only [Act.put]
          refine wpAnyH_done (by kernel_rfl) ?_ _
          go_wp2_with fail
          go_meet
          exact ⟨g6, g7, rfl, rfl, HF⟩
      · refine op_at 9 (d := some 7) (op := .alloc 31) (by rfl) ?_
        intro o0 hod hoo
        refine wp_alloc_32 hoo ?_
        have hb : Below w1.heap.size w1 (w1.alloc (.cells (cellsOf zs32).toArray 31)) := (Below.refl _ _).alloc (Nat.le_refl _) _
        refine ⟨HS.out.step hb, ?_⟩
        rw [hod]
        obtain ⟨g7, hg7⟩ : ∃ g, g = w1.heap.size := ⟨_, rfl⟩
        rw [← hg7]
        refine gen_anyH (F := fun W => Brow W g7 31 zs32 ∧ SD w w.heap.size [] W) ⟨(by rw [hg7]; exact heap_new _ _), (HS.out.step hb)⟩ ?_
        have hNg7 : w.heap.size ≤ g7 := by have := HS.out.2.2.1; omega
        rintro w20 ⟨ha, hs⟩
        clear hg7 hb hod hoo HS
        have H7 := Lib.hid ha
        have HS := Lib.hid hs
        clear ha hs
        simp only [Act.put, List.setIfInBounds_toArray, List.set_cons_zero, List.set_cons_succ]
        refine wpAnyH_all (rs := [7, 8]) (by kernel_rfl) (by simp) ?_
        intro k hk; simp only [List.mem_cons, List.not_mem_nil, or_false] at hk; rcases hk with rfl | rfl
        · refine op_at 7 (d := some 30) (op := .call { callee := .value (.func 12), args := #[(.tmp 29)], argTypes := #[22] }) (by rfl) ?_
          intro o0 hod hoo
          refine wp_call_fn (R := _) hoo (vs := #[.slice (sld aa ac k) (n - k) (ac - k)]) (by go_simp) (by go_simp) (HY.out w20 HS.out.1) ?_
          rintro e w21 ⟨rfl, hb⟩
          refine ⟨_, rfl, HS.out.step hb, ?_⟩
          rw [hod]
          have H7 := Lib.hid (H7.out.below hb H7.out.lt)
          have HS := Lib.hid (HS.out.step hb)
          clear hod hoo hb
          simp only [Act.put, List.setIfInBounds_toArray, List.set_cons_zero, List.set_cons_succ]
          refine wpAnyH_all (rs := [8]) (by kernel_rfl) (by simp) ?_
          intro k hk; simp only [List.mem_cons, List.not_mem_nil, or_false] at hk; subst hk
          refine op_at 8 (d := some 6) (op := .alloc 31) (by rfl) ?_
          intro o0 hod hoo
          refine wp_alloc_32 hoo ?_
          have hb : Below w21.heap.size w21 (w21.alloc (.cells (cellsOf zs32).toArray 31)) := (Below.refl _ _).alloc (Nat.le_refl _) _
          refine ⟨HS.out.step hb, ?_⟩
          rw [hod]
          obtain ⟨g6, hg6⟩ : ∃ g, g = w21.heap.size := ⟨_, rfl⟩
          rw [← hg6]
          refine gen_anyH (F := fun W => Brow W g6 31 zs32 ∧ SD w w.heap.size [] W ∧ Brow W g7 31 zs32) ⟨(by rw [hg6]; exact heap_new _ _), (HS.out.step hb), (H7.out.below hb H7.out.lt)⟩ ?_
          have hneg7 : g7 ≠ g6 := by have := H7.out.lt; omega
          have hNg6 : w.heap.size ≤ g6 := by have := HS.out.2.2.1; omega
          rintro w22 ⟨ha, hs, hH7⟩
          clear hg6 hb hod hoo HS
          have H6 := Lib.hid ha
          have HS := Lib.hid hs
          have H7 := Lib.hid hH7
          clear ha hs hH7
          simp only [Act.put, List.setIfInBounds_toArray, List.set_cons_zero, List.set_cons_succ]
          have hdd : g6 ≠ g7 := by first | assumption | (intro h; exact absurd h.symm (by assumption))
          refine wpAnyH_all (rs := [10]) (by kernel_rfl) (by simp) ?_
          intro k hk; simp only [List.mem_cons, List.not_mem_nil, or_false] at hk; subst hk
          refine op_at 10 (d := none) (op := .store 31 (.tmp 6) (.tmp 26)) (by rfl) ?_
          intro o0 hod hoo
          refine wp_store_mid 31 (.tmp 6) (.tmp 26) hoo g6 0 (cellsOf X).toArray (by rfl) (by rfl) (H6.out.there _ (by rw [cellsOf_size, HXD.out.1]; rfl)) (info32 dtR HXD.out) (cellsOf_all _) ?_
          rw [hod, List.toList_toArray]
          have ho : Only g6 w22 (w22.setCells g6 0 (cellsOf X)) := Only.setCells (cellsOf X) 0 (Only.refl _ _)
          refine ⟨HS.out.only ho hNg6, ?_⟩
          refine gen_anyH (F := fun W => SD w w.heap.size [] W ∧ Brow W g6 31 X ∧ Brow W g7 31 zs32) ⟨HS.out.only ho hNg6, H6.out.setAll (by rw [HXD.out.1]; rfl), H7.out.only ho (Ne.symm hdd)⟩ ?_
          rintro w23 ⟨hs, ha, hb⟩
          clear hod hoo ho HS H6 H7
          have HS := Lib.hid hs
          have H6 := Lib.hid ha
          have H7 := Lib.hid hb
          clear hs ha hb
          simp only [Act.put]
          refine wpAnyH_all (rs := [11]) (by kernel_rfl) (by simp) ?_
          intro k hk; simp only [List.mem_cons, List.not_mem_nil, or_false] at hk; subst hk
          refine op_at 11 (d := none) (op := .store 31 (.tmp 7) (.tmp 30)) (by rfl) ?_
          intro o0 hod hoo
          refine wp_store_mid 31 (.tmp 7) (.tmp 30) hoo g7 0 (cellsOf Y).toArray (by rfl) (by rfl) (H7.out.there _ (by rw [cellsOf_size, HYD.out.1]; rfl)) (info32 dtR HYD.out) (cellsOf_all _) ?_
          rw [hod, List.toList_toArray]
          have ho : Only g7 w23 (w23.setCells g7 0 (cellsOf Y)) := Only.setCells (cellsOf Y) 0 (Only.refl _ _)
          refine ⟨HS.out.only ho hNg7, ?_⟩
          refine gen_anyH (F := fun W => SD w w.heap.size [] W ∧ Brow W g6 31 X ∧ Brow W g7 31 Y) ⟨HS.out.only ho hNg7, H6.out.only ho hdd, H7.out.setAll (by rw [HYD.out.1]; rfl)⟩ ?_
          intro w24 hf
          have HF := Lib.hid hf
          clear hod hoo ho hf HS H6 H7
          simp only [Act.put]
          refine wpAnyH_done (by kernel_rfl) ?_ _
          go_wp2_with fail
          go_meet
          exact ⟨g6, g7, rfl, rfl, HF⟩
        · refine op_at 8 (d := some 6) (op := .alloc 31) (by rfl) ?_
          intro o0 hod hoo
          refine wp_alloc_32 hoo ?_
          have hb : Below w20.heap.size w20 (w20.alloc (.cells (cellsOf zs32).toArray 31)) := (Below.refl _ _).alloc (Nat.le_refl _) _
          refine ⟨HS.out.step hb, ?_⟩
          rw [hod]
          obtain ⟨g6, hg6⟩ : ∃ g, g = w20.heap.size := ⟨_, rfl⟩
          rw [← hg6]
          refine gen_anyH (F := fun W => Brow W g6 31 zs32 ∧ SD w w.heap.size [] W ∧ Brow W g7 31 zs32) ⟨(by rw [hg6]; exact heap_new _ _), (HS.out.step hb), (H7.out.below hb H7.out.lt)⟩ ?_
          have hneg7 : g7 ≠ g6 := by have := H7.out.lt; omega
          have hNg6 : w.heap.size ≤ g6 := by have := HS.out.2.2.1; omega
          rintro w25 ⟨ha, hs, hH7⟩
          clear hg6 hb hod hoo HS
          have H6 := Lib.hid ha
          have HS := Lib.hid hs
          have H7 := Lib.hid hH7
          clear ha hs hH7
          simp only [Act.put, List.setIfInBounds_toArray, List.set_cons_zero, List.set_cons_succ]
          refine wpAnyH_all (rs := [7]) (by kernel_rfl) (by simp) ?_
          intro k hk; simp only [List.mem_cons, List.not_mem_nil, or_false] at hk; subst hk
          refine op_at 7 (d := some 30) (op := .call { callee := .value (.func 12), args := #[(.tmp 29)], argTypes := #[22] }) (by rfl) ?_
          intro o0 hod hoo
          refine wp_call_fn (R := _) hoo (vs := #[.slice (sld aa ac k) (n - k) (ac - k)]) (by go_simp) (by go_simp) (HY.out w25 HS.out.1) ?_
          rintro e w26 ⟨rfl, hb⟩
          refine ⟨_, rfl, HS.out.step hb, ?_⟩
          rw [hod]
          have H6 := Lib.hid (H6.out.below hb H6.out.lt)
          have H7 := Lib.hid (H7.out.below hb H7.out.lt)
          have HS := Lib.hid (HS.out.step hb)
          clear hod hoo hb
          simp only [Act.put, List.setIfInBounds_toArray, List.set_cons_zero, List.set_cons_succ]
          have hdd : g6 ≠ g7 := by first | assumption | (intro h; exact absurd h.symm (by assumption))
          refine wpAnyH_all (rs := [10]) (by kernel_rfl) (by simp) ?_
          intro k hk; simp only [List.mem_cons, List.not_mem_nil, or_false] at hk; subst hk
          refine op_at 10 (d := none) (op := .store 31 (.tmp 6) (.tmp 26)) (by rfl) ?_
          intro o0 hod hoo
          refine wp_store_mid 31 (.tmp 6) (.tmp 26) hoo g6 0 (cellsOf X).toArray (by rfl) (by rfl) (H6.out.there _ (by rw [cellsOf_size, HXD.out.1]; rfl)) (info32 dtR HXD.out) (cellsOf_all _) ?_
          rw [hod, List.toList_toArray]
          have ho : Only g6 w26 (w26.setCells g6 0 (cellsOf X)) := Only.setCells (cellsOf X) 0 (Only.refl _ _)
          refine ⟨HS.out.only ho hNg6, ?_⟩
          refine gen_anyH (F := fun W => SD w w.heap.size [] W ∧ Brow W g6 31 X ∧ Brow W g7 31 zs32) ⟨HS.out.only ho hNg6, H6.out.setAll (by rw [HXD.out.1]; rfl), H7.out.only ho (Ne.symm hdd)⟩ ?_
          rintro w27 ⟨hs, ha, hb⟩
          clear hod hoo ho HS H6 H7
          have HS := Lib.hid hs
          have H6 := Lib.hid ha
          have H7 := Lib.hid hb
          clear hs ha hb
          simp only [Act.put]
          refine wpAnyH_all (rs := [11]) (by kernel_rfl) (by simp) ?_
          intro k hk; simp only [List.mem_cons, List.not_mem_nil, or_false] at hk; subst hk
          refine op_at 11 (d := none) (op := .store 31 (.tmp 7) (.tmp 30)) (by rfl) ?_
          intro o0 hod hoo
          refine wp_store_mid 31 (.tmp 7) (.tmp 30) hoo g7 0 (cellsOf Y).toArray (by rfl) (by rfl) (H7.out.there _ (by rw [cellsOf_size, HYD.out.1]; rfl)) (info32 dtR HYD.out) (cellsOf_all _) ?_
          rw [hod, List.toList_toArray]
          have ho : Only g7 w27 (w27.setCells g7 0 (cellsOf Y)) := Only.setCells (cellsOf Y) 0 (Only.refl _ _)
          refine ⟨HS.out.only ho hNg7, ?_⟩
          refine gen_anyH (F := fun W => SD w w.heap.size [] W ∧ Brow W g6 31 X ∧ Brow W g7 31 Y) ⟨HS.out.only ho hNg7, H6.out.only ho hdd, H7.out.setAll (by rw [HYD.out.1]; rfl)⟩ ?_
          intro w28 hf
          have HF := Lib.hid hf
          clear hod hoo ho hf HS H6 H7
          simp only [Act.put]
          refine wpAnyH_done (by kernel_rfl) ?_ _
          go_wp2_with fail
          go_meet
          exact ⟨g6, g7, rfl, rfl, HF⟩
    · refine op_at 8 (d := some 6) (op := .alloc 31) (by rfl) ?_
      intro o0 hod hoo
      refine wp_alloc_32 hoo ?_
      have hb : Below w.drew.heap.size w.drew (w.drew.alloc (.cells (cellsOf zs32).toArray 31)) := (Below.refl _ _).alloc (Nat.le_refl _) _
      refine ⟨HS.out.step hb, ?_⟩
      rw [hod]
      obtain ⟨g6, hg6⟩ : ∃ g, g = w.drew.heap.size := ⟨_, rfl⟩
      rw [← hg6]
      refine gen_anyH (F := fun W => Brow W g6 31 zs32 ∧ SD w w.heap.size [] W) ⟨(by rw [hg6]; exact heap_new _ _), (HS.out.step hb)⟩ ?_
      have hNg6 : w.heap.size ≤ g6 := by have := HS.out.2.2.1; omega
      rintro w29 ⟨ha, hs⟩
      clear hg6 hb hod hoo HS
      have H6 := Lib.hid ha
      have HS := Lib.hid hs
      clear ha hs
      simp only [Act.put, List.setIfInBounds_toArray, List.set_cons_zero, List.set_cons_succ]
      refine wpAnyH_all (rs := [3, 9]) (by kernel_rfl) (by simp) ?_
      intro k hk; simp only [List.mem_cons, List.not_mem_nil, or_false] at hk; rcases hk with rfl | rfl
      · refine op_at 3 (d := some 26) (op := .call { callee := .value (.func 12), args := #[(.tmp 25)], argTypes := #[22] }) (by rfl) ?_
        intro o0 hod hoo
        refine wp_call_fn (R := _) hoo (vs := #[.slice aa k ac]) (by go_simp) (by go_simp) (HX.out w29 HS.out.1) ?_
        rintro e w30 ⟨rfl, hb⟩
        refine ⟨_, rfl, HS.out.step hb, ?_⟩
        rw [hod]
        have H6 := Lib.hid (H6.out.below hb H6.out.lt)
        have HS := Lib.hid (HS.out.step hb)
        clear hod hoo hb
        simp only [Act.put, List.setIfInBounds_toArray, List.set_cons_zero, List.set_cons_succ]
        refine wpAnyH_all (rs := [7, 9]) (by kernel_rfl) (by simp) ?_
        intro k hk; simp only [List.mem_cons, List.not_mem_nil, or_false] at hk; rcases hk with rfl | rfl
        · refine op_at 7 (d := some 30) (op := .call { callee := .value (.func 12), args := #[(.tmp 29)], argTypes := #[22] }) (by rfl) ?_
          intro o0 hod hoo
          refine wp_call_fn (R := _) hoo (vs := #[.slice (sld aa ac k) (n - k) (ac - k)]) (by go_simp) (by go_simp) (HY.out w30 HS.out.1) ?_
          rintro e w31 ⟨rfl, hb⟩
          refine ⟨_, rfl, HS.out.step hb, ?_⟩
          rw [hod]
          have H6 := Lib.hid (H6.out.below hb H6.out.lt)
          have HS := Lib.hid (HS.out.step hb)
          clear hod hoo hb
          simp only [Act.put, List.setIfInBounds_toArray, List.set_cons_zero, List.set_cons_succ]
          refine wpAnyH_all (rs := [9]) (by kernel_rfl) (by simp) ?_
          intro k hk; simp only [List.mem_cons, List.not_mem_nil, or_false] at hk; subst hk
          refine op_at 9 (d := some 7) (op := .alloc 31) (by rfl) ?_
          intro o0 hod hoo
          refine wp_alloc_32 hoo ?_
          have hb : Below w31.heap.size w31 (w31.alloc (.cells (cellsOf zs32).toArray 31)) := (Below.refl _ _).alloc (Nat.le_refl _) _
          refine ⟨HS.out.step hb, ?_⟩
          rw [hod]
          obtain ⟨g7, hg7⟩ : ∃ g, g = w31.heap.size := ⟨_, rfl⟩
          rw [← hg7]
          refine gen_anyH (F := fun W => Brow W g7 31 zs32 ∧ SD w w.heap.size [] W ∧ Brow W g6 31 zs32) ⟨(by rw [hg7]; exact heap_new _ _), (HS.out.step hb), (H6.out.below hb H6.out.lt)⟩ ?_
          have hneg6 : g6 ≠ g7 := by have := H6.out.lt; omega
          have hNg7 : w.heap.size ≤ g7 := by have := HS.out.2.2.1; omega
          rintro w32 ⟨ha, hs, hH6⟩
          clear hg7 hb hod hoo HS
          have H7 := Lib.hid ha
          have HS := Lib.hid hs
          have H6 := Lib.hid hH6
          clear ha hs hH6
          simp only [Act.put, List.setIfInBounds_toArray, List.set_cons_zero, List.set_cons_succ]
          have hdd : g6 ≠ g7 := by first | assumption | (intro h; exact absurd h.symm (by assumption))
          refine wpAnyH_all (rs := [10]) (by kernel_rfl) (by simp) ?_
          intro k hk; simp only [List.mem_cons, List.not_mem_nil, or_false] at hk; subst hk
          refine op_at 10 (d := none) (op := .store 31 (.tmp 6) (.tmp 26)) (by rfl) ?_
          intro o0 hod hoo
          refine wp_store_mid 31 (.tmp 6) (.tmp 26) hoo g6 0 (cellsOf X).toArray (by rfl) (by rfl) (H6.out.there _ (by rw [cellsOf_size, HXD.out.1]; rfl)) (info32 dtR HXD.out) (cellsOf_all _) ?_
          rw [hod, List.toList_toArray]
          have ho : Only g6 w32 (w32.setCells g6 0 (cellsOf X)) := Only.setCells (cellsOf X) 0 (Only.refl _ _)
          refine ⟨HS.out.only ho hNg6, ?_⟩
          refine gen_anyH (F := fun W => SD w w.heap.size [] W ∧ Brow W g6 31 X ∧ Brow W g7 31 zs32) ⟨HS.out.only ho hNg6, H6.out.setAll (by rw [HXD.out.1]; rfl), H7.out.only ho (Ne.symm hdd)⟩ ?_
          rintro w33 ⟨hs, ha, hb⟩
          clear hod hoo ho HS H6 H7
          have HS := Lib.hid hs
          have H6 := Lib.hid ha
          have H7 := Lib.hid hb
          clear hs ha hb
          simp only [Act.put]
          refine wpAnyH_all (rs := [11]) (by kernel_rfl) (by simp) ?_
          intro k hk; simp only [List.mem_cons, List.not_mem_nil, or_false] at hk; subst hk
          refine op_at 11 (d := none) (op := .store 31 (.tmp 7) (.tmp 30)) (by rfl) ?_
          intro o0 hod hoo
          refine wp_store_mid 31 (.tmp 7) (.tmp 30) hoo g7 0 (cellsOf Y).toArray (by rfl) (by rfl) (H7.out.there _ (by rw [cellsOf_size, HYD.out.1]; rfl)) (info32 dtR HYD.out) (cellsOf_all _) ?_
          rw [hod, List.toList_toArray]
          have ho : Only g7 w33 (w33.setCells g7 0 (cellsOf Y)) := Only.setCells (cellsOf Y) 0 (Only.refl _ _)
          refine ⟨HS.out.only ho hNg7, ?_⟩
          refine gen_anyH (F := fun W => SD w w.heap.size [] W ∧ Brow W g6 31 X ∧ Brow W g7 31 Y) ⟨HS.out.only ho hNg7, H6.out.only ho hdd, H7.out.setAll (by rw [HYD.out.1]; rfl)⟩ ?_
          intro w34 hf
          have HF := Lib.hid hf
          clear hod hoo ho hf HS H6 H7
          simp only [Act.put]
          refine wpAnyH_done (by kernel_rfl) ?_ _
          go_wp2_with fail
          go_meet
          exact ⟨g6, g7, rfl, rfl, HF⟩
        · refine op_at 9 (d := some 7) (op := .alloc 31) (by rfl) ?_
          intro o0 hod hoo
          refine wp_alloc_32 hoo ?_
          have hb : Below w30.heap.size w30 (w30.alloc (.cells (cellsOf zs32).toArray 31)) := (Below.refl _ _).alloc (Nat.le_refl _) _
          refine ⟨HS.out.step hb, ?_⟩
          rw [hod]
          obtain ⟨g7, hg7⟩ : ∃ g, g = w30.heap.size := ⟨_, rfl⟩
          rw [← hg7]
          refine gen_anyH (F := fun W => Brow W g7 31 zs32 ∧ SD w w.heap.size [] W ∧ Brow W g6 31 zs32) ⟨(by rw [hg7]; exact heap_new _ _), (HS.out.step hb), (H6.out.below hb H6.out.lt)⟩ ?_
          have hneg6 : g6 ≠ g7 := by have := H6.out.lt; omega
          have hNg7 : w.heap.size ≤ g7 := by have := HS.out.2.2.1; omega
          rintro w35 ⟨ha, hs, hH6⟩
          clear hg7 hb hod hoo HS
          have H7 := Lib.hid ha
          have HS := Lib.hid hs
          have H6 := Lib.hid hH6
          clear ha hs hH6
          simp only [Act.put, List.setIfInBounds_toArray, List.set_cons_zero, List.set_cons_succ]
          refine wpAnyH_all (rs := [7]) (by kernel_rfl) (by simp) ?_
          intro k hk; simp only [List.mem_cons, List.not_mem_nil, or_false] at hk; subst hk
          refine op_at 7 (d := some 30) (op := .call { callee := .value (.func 12), args := #[(.tmp 29)], argTypes := #[22] }) (by rfl) ?_
          intro o0 hod hoo
          refine wp_call_fn (R := _) hoo (vs := #[.slice (sld aa ac k) (n - k) (ac - k)]) (by go_simp) (by go_simp) (HY.out w35 HS.out.1) ?_
          rintro e w36 ⟨rfl, hb⟩
          refine ⟨_, rfl, HS.out.step hb, ?_⟩
          rw [hod]
          have H6 := Lib.hid (H6.out.below hb H6.out.lt)
          have H7 := Lib.hid (H7.out.below hb H7.out.lt)
          have HS := Lib.hid (HS.out.step hb)
          clear hod hoo hb
          simp only [Act.put, List.setIfInBounds_toArray, List.set_cons_zero, List.set_cons_succ]
          have hdd : g6 ≠ g7 := by first | assumption | (intro h; exact absurd h.symm (by assumption))
          refine wpAnyH_all (rs := [10]) (by kernel_rfl) (by simp) ?_
          intro k hk; simp only [List.mem_cons, List.not_mem_nil, or_false] at hk; subst hk
          refine op_at 10 (d := none) (op := .store 31 (.tmp 6) (.tmp 26)) (by rfl) ?_
          intro o0 hod hoo
          refine wp_store_mid 31 (.tmp 6) (.tmp 26) hoo g6 0 (cellsOf X).toArray (by rfl) (by rfl) (H6.out.there _ (by rw [cellsOf_size, HXD.out.1]; rfl)) (info32 dtR HXD.out) (cellsOf_all _) ?_
          rw [hod, List.toList_toArray]
          have ho : Only g6 w36 (w36.setCells g6 0 (cellsOf X)) := Only.setCells (cellsOf X) 0 (Only.refl _ _)
          refine ⟨HS.out.only ho hNg6, ?_⟩
          refine gen_anyH (F := fun W => SD w w.heap.size [] W ∧ Brow W g6 31 X ∧ Brow W g7 31 zs32) ⟨HS.out.only ho hNg6, H6.out.setAll (by rw [HXD.out.1]; rfl), H7.out.only ho (Ne.symm hdd)⟩ ?_
          rintro w37 ⟨hs, ha, hb⟩
          clear hod hoo ho HS H6 H7
          have HS := Lib.hid hs
          have H6 := Lib.hid ha
          have H7 := Lib.hid hb
          clear hs ha hb
          simp only [Act.put]
          refine wpAnyH_all (rs := [11]) (by kernel_rfl) (by simp) ?_
          intro k hk; simp only [List.mem_cons, List.not_mem_nil, or_false] at hk; subst hk
          refine op_at 11 (d := none) (op := .store 31 (.tmp 7) (.tmp 30)) (by rfl) ?_
          intro o0 hod hoo
          refine wp_store_mid 31 (.tmp 7) (.tmp 30) hoo g7 0 (cellsOf Y).toArray (by rfl) (by rfl) (H7.out.there _ (by rw [cellsOf_size, HYD.out.1]; rfl)) (info32 dtR HYD.out) (cellsOf_all _) ?_
          rw [hod, List.toList_toArray]
          have ho : Only g7 w37 (w37.setCells g7 0 (cellsOf Y)) := Only.setCells (cellsOf Y) 0 (Only.refl _ _)
          refine ⟨HS.out.only ho hNg7, ?_⟩
          refine gen_anyH (F := fun W => SD w w.heap.size [] W ∧ Brow W g6 31 X ∧ Brow W g7 31 Y) ⟨HS.out.only ho hNg7, H6.out.only ho hdd, H7.out.setAll (by rw [HYD.out.1]; rfl)⟩ ?_
          intro w38 hf
          have HF := Lib.hid hf
          clear hod hoo ho hf HS H6 H7
          simp only [Act.put]
          refine wpAnyH_done (by kernel_rfl) ?_ _
          go_wp2_with fail
          go_meet
          exact ⟨g6, g7, rfl, rfl, HF⟩
      · refine op_at 9 (d := some 7) (op := .alloc 31) (by rfl) ?_
        intro o0 hod hoo
        refine wp_alloc_32 hoo ?_
        have hb : Below w29.heap.size w29 (w29.alloc (.cells (cellsOf zs32).toArray 31)) := (Below.refl _ _).alloc (Nat.le_refl _) _
        refine ⟨HS.out.step hb, ?_⟩
        rw [hod]
        obtain ⟨g7, hg7⟩ : ∃ g, g = w29.heap.size := ⟨_, rfl⟩
        rw [← hg7]
        refine gen_anyH (F := fun W => Brow W g7 31 zs32 ∧ SD w w.heap.size [] W ∧ Brow W g6 31 zs32) ⟨(by rw [hg7]; exact heap_new _ _), (HS.out.step hb), (H6.out.below hb H6.out.lt)⟩ ?_
        have hneg6 : g6 ≠ g7 := by have := H6.out.lt; omega
        have hNg7 : w.heap.size ≤ g7 := by have := HS.out.2.2.1; omega
        rintro w39 ⟨ha, hs, hH6⟩
        clear hg7 hb hod hoo HS
        have H7 := Lib.hid ha
        have HS := Lib.hid hs
        have H6 := Lib.hid hH6
        clear ha hs hH6
        simp only [Act.put, List.setIfInBounds_toArray, List.set_cons_zero, List.set_cons_succ]
        refine wpAnyH_all (rs := [3]) (by kernel_rfl) (by simp) ?_
        intro k hk; simp only [List.mem_cons, List.not_mem_nil, or_false] at hk; subst hk
        refine op_at 3 (d := some 26) (op := .call { callee := .value (.func 12), args := #[(.tmp 25)], argTypes := #[22] }) (by rfl) ?_
        intro o0 hod hoo
        refine wp_call_fn (R := _) hoo (vs := #[.slice aa k ac]) (by go_simp) (by go_simp) (HX.out w39 HS.out.1) ?_
        rintro e w40 ⟨rfl, hb⟩
        refine ⟨_, rfl, HS.out.step hb, ?_⟩
        rw [hod]
        have H6 := Lib.hid (H6.out.below hb H6.out.lt)
        have H7 := Lib.hid (H7.out.below hb H7.out.lt)
        have HS := Lib.hid (HS.out.step hb)
        clear hod hoo hb
        simp only [Act.put, List.setIfInBounds_toArray, List.set_cons_zero, List.set_cons_succ]
        refine wpAnyH_all (rs := [7]) (by kernel_rfl) (by simp) ?_
        intro k hk; simp only [List.mem_cons, List.not_mem_nil, or_false] at hk; subst hk
        refine op_at 7 (d := some 30) (op := .call { callee := .value (.func 12), args := #[(.tmp 29)], argTypes := #[22] }) (by rfl) ?_
        intro o0 hod hoo
        refine wp_call_fn (R := _) hoo (vs := #[.slice (sld aa ac k) (n - k) (ac - k)]) (by go_simp) (by go_simp) (HY.out w40 HS.out.1) ?_
        rintro e w41 ⟨rfl, hb⟩
        refine ⟨_, rfl, HS.out.step hb, ?_⟩
        rw [hod]
        have H6 := Lib.hid (H6.out.below hb H6.out.lt)
        have H7 := Lib.hid (H7.out.below hb H7.out.lt)
        have HS := Lib.hid (HS.out.step hb)
        clear hod hoo hb
        simp only [Act.put, List.setIfInBounds_toArray, List.set_cons_zero, List.set_cons_succ]
        have hdd : g6 ≠ g7 := by first | assumption | (intro h; exact absurd h.symm (by assumption))
        refine wpAnyH_all (rs := [10]) (by kernel_rfl) (by simp) ?_
        intro k hk; simp only [List.mem_cons, List.not_mem_nil, or_false] at hk; subst hk
        refine op_at 10 (d := none) (op := .store 31 (.tmp 6) (.tmp 26)) (by rfl) ?_
        intro o0 hod hoo
        refine wp_store_mid 31 (.tmp 6) (.tmp 26) hoo g6 0 (cellsOf X).toArray (by rfl) (by rfl) (H6.out.there _ (by rw [cellsOf_size, HXD.out.1]; rfl)) (info32 dtR HXD.out) (cellsOf_all _) ?_
        rw [hod, List.toList_toArray]
        have ho : Only g6 w41 (w41.setCells g6 0 (cellsOf X)) := Only.setCells (cellsOf X) 0 (Only.refl _ _)
        refine ⟨HS.out.only ho hNg6, ?_⟩
        refine gen_anyH (F := fun W => SD w w.heap.size [] W ∧ Brow W g6 31 X ∧ Brow W g7 31 zs32) ⟨HS.out.only ho hNg6, H6.out.setAll (by rw [HXD.out.1]; rfl), H7.out.only ho (Ne.symm hdd)⟩ ?_
        rintro w42 ⟨hs, ha, hb⟩
        clear hod hoo ho HS H6 H7
        have HS := Lib.hid hs
        have H6 := Lib.hid ha
        have H7 := Lib.hid hb
        clear hs ha hb
        simp only [Act.put]
        refine wpAnyH_all (rs := [11]) (by kernel_rfl) (by simp) ?_
        intro k hk; simp only [List.mem_cons, List.not_mem_nil, or_false] at hk; subst hk
        refine op_at 11 (d := none) (op := .store 31 (.tmp 7) (.tmp 30)) (by rfl) ?_
        intro o0 hod hoo
        refine wp_store_mid 31 (.tmp 7) (.tmp 30) hoo g7 0 (cellsOf Y).toArray (by rfl) (by rfl) (H7.out.there _ (by rw [cellsOf_size, HYD.out.1]; rfl)) (info32 dtR HYD.out) (cellsOf_all _) ?_
        rw [hod, List.toList_toArray]
        have ho : Only g7 w42 (w42.setCells g7 0 (cellsOf Y)) := Only.setCells (cellsOf Y) 0 (Only.refl _ _)
        refine ⟨HS.out.only ho hNg7, ?_⟩
        refine gen_anyH (F := fun W => SD w w.heap.size [] W ∧ Brow W g6 31 X ∧ Brow W g7 31 Y) ⟨HS.out.only ho hNg7, H6.out.only ho hdd, H7.out.setAll (by rw [HYD.out.1]; rfl)⟩ ?_
        intro w43 hf
        have HF := Lib.hid hf
        clear hod hoo ho hf HS H6 H7
        simp only [Act.put]
        refine wpAnyH_done (by kernel_rfl) ?_ _
        go_wp2_with fail
        go_meet
        exact ⟨g6, g7, rfl, rfl, HF⟩
    · refine op_at 9 (d := some 7) (op := .alloc 31) (by rfl) ?_
      intro o0 hod hoo
      refine wp_alloc_32 hoo ?_
      have hb : Below w.drew.heap.size w.drew (w.drew.alloc (.cells (cellsOf zs32).toArray 31)) := (Below.refl _ _).alloc (Nat.le_refl _) _
      refine ⟨HS.out.step hb, ?_⟩
      rw [hod]
      obtain ⟨g7, hg7⟩ : ∃ g, g = w.drew.heap.size := ⟨_, rfl⟩
      rw [← hg7]
      refine gen_anyH (F := fun W => Brow W g7 31 zs32 ∧ SD w w.heap.size [] W) ⟨(by rw [hg7]; exact heap_new _ _), (HS.out.step hb)⟩ ?_
      have hNg7 : w.heap.size ≤ g7 := by have := HS.out.2.2.1; omega
      rintro w44 ⟨ha, hs⟩
      clear hg7 hb hod hoo HS
      have H7 := Lib.hid ha
      have HS := Lib.hid hs
      clear ha hs
      simp only [Act.put, List.setIfInBounds_toArray, List.set_cons_zero, List.set_cons_succ]
      refine wpAnyH_all (rs := [3, 8]) (by kernel_rfl) (by simp) ?_
      intro k hk; simp only [List.mem_cons, List.not_mem_nil, or_false] at hk; rcases hk with rfl | rfl
      · refine op_at 3 (d := some 26) (op := .call { callee := .value (.func 12), args := #[(.tmp 25)], argTypes := #[22] }) (by rfl) ?_
        intro o0 hod hoo
        refine wp_call_fn (R := _) hoo (vs := #[.slice aa k ac]) (by go_simp) (by go_simp) (HX.out w44 HS.out.1) ?_
        rintro e w45 ⟨rfl, hb⟩
        refine ⟨_, rfl, HS.out.step hb, ?_⟩
        rw [hod]
        have H7 := Lib.hid (H7.out.below hb H7.out.lt)
        have HS := Lib.hid (HS.out.step hb)
        clear hod hoo hb
        simp only [Act.put, List.setIfInBounds_toArray, List.set_cons_zero, List.set_cons_succ]
        refine wpAnyH_all (rs := [7, 8]) (by kernel_rfl) (by simp) ?_
        intro k hk; simp only [List.mem_cons, List.not_mem_nil, or_false] at hk; rcases hk with rfl | rfl
        · refine op_at 7 (d := some 30) (op := .call { callee := .value (.func 12), args := #[(.tmp 29)], argTypes := #[22] }) (by rfl) ?_
          intro o0 hod hoo
          refine wp_call_fn (R := _) hoo (vs := #[.slice (sld aa ac k) (n - k) (ac - k)]) (by go_simp) (by go_simp) (HY.out w45 HS.out.1) ?_
          rintro e w46 ⟨rfl, hb⟩
          refine ⟨_, rfl, HS.out.step hb, ?_⟩
          rw [hod]
          have H7 := Lib.hid (H7.out.below hb H7.out.lt)
          have HS := Lib.hid (HS.out.step hb)
          clear hod hoo hb
          simp only [Act.put, List.setIfInBounds_toArray, List.set_cons_zero, List.set_cons_succ]
          refine wpAnyH_all (rs := [8]) (by kernel_rfl) (by simp) ?_
          intro k hk; simp only [List.mem_cons, List.not_mem_nil, or_false] at hk; subst hk
          refine op_at 8 (d := some 6) (op := .alloc 31) (by rfl) ?_
          intro o0 hod hoo
          refine wp_alloc_32 hoo ?_
          have hb : Below w46.heap.size w46 (w46.alloc (.cells (cellsOf zs32).toArray 31)) := (Below.refl _ _).alloc (Nat.le_refl _) _
          refine ⟨HS.out.step hb, ?_⟩
          rw [hod]
          obtain ⟨g6, hg6⟩ : ∃ g, g = w46.heap.size := ⟨_, rfl⟩
          rw [← hg6]
          refine gen_anyH (F := fun W => Brow W g6 31 zs32 ∧ SD w w.heap.size [] W ∧ Brow W g7 31 zs32) ⟨(by rw [hg6]; exact heap_new _ _), (HS.out.step hb), (H7.out.below hb H7.out.lt)⟩ ?_
          have hneg7 : g7 ≠ g6 := by have := H7.out.lt; omega
          have hNg6 : w.heap.size ≤ g6 := by have := HS.out.2.2.1; omega
          rintro w47 ⟨ha, hs, hH7⟩
          clear hg6 hb hod hoo HS
          have H6 := Lib.hid ha
          have HS := Lib.hid hs
          have H7 := Lib.hid hH7
          clear ha hs hH7
          simp only [Act.put, List.setIfInBounds_toArray, List.set_cons_zero, List.set_cons_succ]
          have hdd : g6 ≠ g7 := by first | assumption | (intro h; exact absurd h.symm (by assumption))
          refine wpAnyH_all (rs := [10]) (by kernel_rfl) (by simp) ?_
          intro k hk; simp only [List.mem_cons, List.not_mem_nil, or_false] at hk; subst hk
          refine op_at 10 (d := none) (op := .store 31 (.tmp 6) (.tmp 26)) (by rfl) ?_
          intro o0 hod hoo
          refine wp_store_mid 31 (.tmp 6) (.tmp 26) hoo g6 0 (cellsOf X).toArray (by rfl) (by rfl) (H6.out.there _ (by rw [cellsOf_size, HXD.out.1]; rfl)) (info32 dtR HXD.out) (cellsOf_all _) ?_
          rw [hod, List.toList_toArray]
          have ho : Only g6 w47 (w47.setCells g6 0 (cellsOf X)) := Only.setCells (cellsOf X) 0 (Only.refl _ _)
          refine ⟨HS.out.only ho hNg6, ?_⟩
          refine gen_anyH (F := fun W => SD w w.heap.size [] W ∧ Brow W g6 31 X ∧ Brow W g7 31 zs32) ⟨HS.out.only ho hNg6, H6.out.setAll (by rw [HXD.out.1]; rfl), H7.out.only ho (Ne.symm hdd)⟩ ?_
          rintro w48 ⟨hs, ha, hb⟩
          clear hod hoo ho HS H6 H7
          have HS := Lib.hid hs
          have H6 := Lib.hid ha
          have H7 := Lib.hid hb
          clear hs ha hb
          simp only [Act.put]
          refine wpAnyH_all (rs := [11]) (by kernel_rfl) (by simp) ?_
          intro k hk; simp only [List.mem_cons, List.not_mem_nil, or_false] at hk; subst hk
          refine op_at 11 (d := none) (op := .store 31 (.tmp 7) (.tmp 30)) (by rfl) ?_
          intro o0 hod hoo
          refine wp_store_mid 31 (.tmp 7) (.tmp 30) hoo g7 0 (cellsOf Y).toArray (by rfl) (by rfl) (H7.out.there _ (by rw [cellsOf_size, HYD.out.1]; rfl)) (info32 dtR HYD.out) (cellsOf_all _) ?_
          rw [hod, List.toList_toArray]
          have ho : Only g7 w48 (w48.setCells g7 0 (cellsOf Y)) := Only.setCells (cellsOf Y) 0 (Only.refl _ _)
          refine ⟨HS.out.only ho hNg7, ?_⟩
          refine gen_anyH (F := fun W => SD w w.heap.size [] W ∧ Brow W g6 31 X ∧ Brow W g7 31 Y) ⟨HS.out.only ho hNg7, H6.out.only ho hdd, H7.out.setAll (by rw [HYD.out.1]; rfl)⟩ ?_
          intro w49 hf
          have HF := Lib.hid hf
          clear hod hoo ho hf HS H6 H7
          simp only [Act.put]
          refine wpAnyH_done (by kernel_rfl) ?_ _
          go_wp2_with fail
          go_meet
          exact ⟨g6, g7, rfl, rfl, HF⟩
        · refine op_at 8 (d := some 6) (op := .alloc 31) (by rfl) ?_
          intro o0 hod hoo
          refine wp_alloc_32 hoo ?_
          have hb : Below w45.heap.size w45 (w45.alloc (.cells (cellsOf zs32).toArray 31)) := (Below.refl _ _).alloc (Nat.le_refl _) _
          refine ⟨HS.out.step hb, ?_⟩
          rw [hod]
          obtain ⟨g6, hg6⟩ : ∃ g, g = w45.heap.size := ⟨_, rfl⟩
          rw [← hg6]
          refine gen_anyH (F := fun W => Brow W g6 31 zs32 ∧ SD w w.heap.size [] W ∧ Brow W g7 31 zs32) ⟨(by rw [hg6]; exact heap_new _ _), (HS.out.step hb), (H7.out.below hb H7.out.lt)⟩ ?_
          have hneg7 : g7 ≠ g6 := by have := H7.out.lt; omega
          have hNg6 : w.heap.size ≤ g6 := by have := HS.out.2.2.1; omega
          rintro w50 ⟨ha, hs, hH7⟩
          clear hg6 hb hod hoo HS
          have H6 := Lib.hid ha
          have HS := Lib.hid hs
          have H7 := Lib.hid hH7
          clear ha hs hH7
          simp only [Act.put, List.setIfInBounds_toArray, List.set_cons_zero, List.set_cons_succ]
          refine wpAnyH_all (rs := [7]) (by kernel_rfl) (by simp) ?_
          intro k hk; simp only [List.mem_cons, List.not_mem_nil, or_false] at hk; subst hk
          refine op_at 7 (d := some 30) (op := .call { callee := .value (.func 12), args := #[(.tmp 29)], argTypes := #[22] }) (by rfl) ?_
          intro o0 hod hoo
          refine wp_call_fn (R := _) hoo (vs := #[.slice (sld aa ac k) (n - k) (ac - k)]) (by go_simp) (by go_simp) (HY.out w50 HS.out.1) ?_
          rintro e w51 ⟨rfl, hb⟩
          refine ⟨_, rfl, HS.out.step hb, ?_⟩
          rw [hod]
          have H6 := Lib.hid (H6.out.below hb H6.out.lt)
          have H7 := Lib.hid (H7.out.below hb H7.out.lt)
          have HS := Lib.hid (HS.out.step hb)
          clear hod hoo hb
          simp only [Act.put, List.setIfInBounds_toArray, List.set_cons_zero, List.set_cons_succ]
          have hdd : g6 ≠ g7 := by first | assumption | (intro h; exact absurd h.symm (by assumption))
          refine wpAnyH_all (rs := [10]) (by kernel_rfl) (by simp) ?_
          intro k hk; simp only [List.mem_cons, List.not_mem_nil, or_false] at hk; subst hk
          refine op_at 10 (d := none) (op := .store 31 (.tmp 6) (.tmp 26)) (by rfl) ?_
          intro o0 hod hoo
          refine wp_store_mid 31 (.tmp 6) (.tmp 26) hoo g6 0 (cellsOf X).toArray (by rfl) (by rfl) (H6.out.there _ (by rw [cellsOf_size, HXD.out.1]; rfl)) (info32 dtR HXD.out) (cellsOf_all _) ?_
          rw [hod, List.toList_toArray]
          have ho : Only g6 w51 (w51.setCells g6 0 (cellsOf X)) := Only.setCells (cellsOf X) 0 (Only.refl _ _)
          refine ⟨HS.out.only ho hNg6, ?_⟩
          refine gen_anyH (F := fun W => SD w w.heap.size [] W ∧ Brow W g6 31 X ∧ Brow W g7 31 zs32) ⟨HS.out.only ho hNg6, H6.out.setAll (by rw [HXD.out.1]; rfl), H7.out.only ho (Ne.symm hdd)⟩ ?_
          rintro w52 ⟨hs, ha, hb⟩
          clear hod hoo ho HS H6 H7
          have HS := Lib.hid hs
          have H6 := Lib.hid ha
          have H7 := Lib.hid hb
          clear hs ha hb
          simp only [Act.put]
          refine wpAnyH_all (rs := [11]) (by kernel_rfl) (by simp) ?_
          intro k hk; simp only [List.mem_cons, List.not_mem_nil, or_false] at hk; subst hk
          refine op_at 11 (d := none) (op := .store 31 (.tmp 7) (.tmp 30)) (by rfl) ?_
          intro o0 hod hoo
          refine wp_store_mid 31 (.tmp 7) (.tmp 30) hoo g7 0 (cellsOf Y).toArray (by rfl) (by rfl) (H7.out.there _ (by rw [cellsOf_size, HYD.out.1]; rfl)) (info32 dtR HYD.out) (cellsOf_all _) ?_
          rw [hod, List.toList_toArray]
          have ho : Only g7 w52 (w52.setCells g7 0 (cellsOf Y)) := Only.setCells (cellsOf Y) 0 (Only.refl _ _)
          refine ⟨HS.out.only ho hNg7, ?_⟩
          refine gen_anyH (F := fun W => SD w w.heap.size [] W ∧ Brow W g6 31 X ∧ Brow W g7 31 Y) ⟨HS.out.only ho hNg7, H6.out.only ho hdd, H7.out.setAll (by rw [HYD.out.1]; rfl)⟩ ?_
          intro w53 hf
          have HF := Lib.hid hf
          clear hod hoo ho hf HS H6 H7
          simp only [Act.put]
          refine wpAnyH_done (by kernel_rfl) ?_ _
          go_wp2_with fail
          go_meet
          exact ⟨g6, g7, rfl, rfl, HF⟩
      · refine op_at 8 (d := some 6) (op := .alloc 31) (by rfl) ?_
        intro o0 hod hoo
        refine wp_alloc_32 hoo ?_
        have hb : Below w44.heap.size w44 (w44.alloc (.cells (cellsOf zs32).toArray 31)) := (Below.refl _ _).alloc (Nat.le_refl _) _
        refine ⟨HS.out.step hb, ?_⟩
        rw [hod]
        obtain ⟨g6, hg6⟩ : ∃ g, g = w44.heap.size := ⟨_, rfl⟩
        rw [← hg6]
        refine gen_anyH (F := fun W => Brow W g6 31 zs32 ∧ SD w w.heap.size [] W ∧ Brow W g7 31 zs32) ⟨(by rw [hg6]; exact heap_new _ _), (HS.out.step hb), (H7.out.below hb H7.out.lt)⟩ ?_
        have hneg7 : g7 ≠ g6 := by have := H7.out.lt; omega
        have hNg6 : w.heap.size ≤ g6 := by have := HS.out.2.2.1; omega
        rintro w54 ⟨ha, hs, hH7⟩
        clear hg6 hb hod hoo HS
        have H6 := Lib.hid ha
        have HS := Lib.hid hs
        have H7 := Lib.hid hH7
        clear ha hs hH7
        simp only [Act.put, List.setIfInBounds_toArray, List.set_cons_zero, List.set_cons_succ]
        refine wpAnyH_all (rs := [3]) (by kernel_rfl) (by simp) ?_
        intro k hk; simp only [List.mem_cons, List.not_mem_nil, or_false] at hk; subst hk
        refine op_at 3 (d := some 26) (op := .call { callee := .value (.func 12), args := #[(.tmp 25)], argTypes := #[22] }) (by rfl) ?_
        intro o0 hod hoo
        refine wp_call_fn (R := _) hoo (vs := #[.slice aa k ac]) (by go_simp) (by go_simp) (HX.out w54 HS.out.1) ?_
        rintro e w55 ⟨rfl, hb⟩
        refine ⟨_, rfl, HS.out.step hb, ?_⟩
        rw [hod]
        have H6 := Lib.hid (H6.out.below hb H6.out.lt)
        have H7 := Lib.hid (H7.out.below hb H7.out.lt)
        have HS := Lib.hid (HS.out.step hb)
        clear hod hoo hb
        simp only [Act.put, List.setIfInBounds_toArray, List.set_cons_zero, List.set_cons_succ]
        refine wpAnyH_all (rs := [7]) (by kernel_rfl) (by simp) ?_
        intro k hk; simp only [List.mem_cons, List.not_mem_nil, or_false] at hk; subst hk
        refine op_at 7 (d := some 30) (op := .call { callee := .value (.func 12), args := #[(.tmp 29)], argTypes := #[22] }) (by rfl) ?_
        intro o0 hod hoo
        refine wp_call_fn (R := _) hoo (vs := #[.slice (sld aa ac k) (n - k) (ac - k)]) (by go_simp) (by go_simp) (HY.out w55 HS.out.1) ?_
        rintro e w56 ⟨rfl, hb⟩
        refine ⟨_, rfl, HS.out.step hb, ?_⟩
        rw [hod]
        have H6 := Lib.hid (H6.out.below hb H6.out.lt)
        have H7 := Lib.hid (H7.out.below hb H7.out.lt)
        have HS := Lib.hid (HS.out.step hb)
        clear hod hoo hb
        simp only [Act.put, List.setIfInBounds_toArray, List.set_cons_zero, List.set_cons_succ]
        have hdd : g6 ≠ g7 := by first | assumption | (intro h; exact absurd h.symm (by assumption))
        refine wpAnyH_all (rs := [10]) (by kernel_rfl) (by simp) ?_
        intro k hk; simp only [List.mem_cons, List.not_mem_nil, or_false] at hk; subst hk
        refine op_at 10 (d := none) (op := .store 31 (.tmp 6) (.tmp 26)) (by rfl) ?_
        intro o0 hod hoo
        refine wp_store_mid 31 (.tmp 6) (.tmp 26) hoo g6 0 (cellsOf X).toArray (by rfl) (by rfl) (H6.out.there _ (by rw [cellsOf_size, HXD.out.1]; rfl)) (info32 dtR HXD.out) (cellsOf_all _) ?_
        rw [hod, List.toList_toArray]
        have ho : Only g6 w56 (w56.setCells g6 0 (cellsOf X)) := Only.setCells (cellsOf X) 0 (Only.refl _ _)
        refine ⟨HS.out.only ho hNg6, ?_⟩
        refine gen_anyH (F := fun W => SD w w.heap.size [] W ∧ Brow W g6 31 X ∧ Brow W g7 31 zs32) ⟨HS.out.only ho hNg6, H6.out.setAll (by rw [HXD.out.1]; rfl), H7.out.only ho (Ne.symm hdd)⟩ ?_
        rintro w57 ⟨hs, ha, hb⟩
        clear hod hoo ho HS H6 H7
        have HS := Lib.hid hs
        have H6 := Lib.hid ha
        have H7 := Lib.hid hb
        clear hs ha hb
        simp only [Act.put]
        refine wpAnyH_all (rs := [11]) (by kernel_rfl) (by simp) ?_
        intro k hk; simp only [List.mem_cons, List.not_mem_nil, or_false] at hk; subst hk
        refine op_at 11 (d := none) (op := .store 31 (.tmp 7) (.tmp 30)) (by rfl) ?_
        intro o0 hod hoo
        refine wp_store_mid 31 (.tmp 7) (.tmp 30) hoo g7 0 (cellsOf Y).toArray (by rfl) (by rfl) (H7.out.there _ (by rw [cellsOf_size, HYD.out.1]; rfl)) (info32 dtR HYD.out) (cellsOf_all _) ?_
        rw [hod, List.toList_toArray]
        have ho : Only g7 w57 (w57.setCells g7 0 (cellsOf Y)) := Only.setCells (cellsOf Y) 0 (Only.refl _ _)
        refine ⟨HS.out.only ho hNg7, ?_⟩
        refine gen_anyH (F := fun W => SD w w.heap.size [] W ∧ Brow W g6 31 X ∧ Brow W g7 31 Y) ⟨HS.out.only ho hNg7, H6.out.only ho hdd, H7.out.setAll (by rw [HYD.out.1]; rfl)⟩ ?_
        intro w58 hf
        have HF := Lib.hid hf
        clear hod hoo ho hf HS H6 H7
        simp only [Act.put]
        refine wpAnyH_done (by kernel_rfl) ?_ _
        go_wp2_with fail
        go_meet
        exact ⟨g6, g7, rfl, rfl, HF⟩
  case rest =>
    obtain ⟨g6, g7, rfl, rfl, HF⟩ := hcut
    clear HS HX HY
    have HS := Lib.hid (HF.out.1.more HF.out.2.1 HF.out.2.2)
    obtain ⟨B5, hB5⟩ : ∃ B, B = wc.heap.size := ⟨_, rfl⟩
    rw [← hB5] at HS
    clear hB5 HF
    go_upto_region 5 with fail
    have HS := Lib.hid HS.out.drew
    go_cut [8, 9] from 10 (fun s8 s9 wx => ∃ g8 g9 : Nat, s8 = .pointer (some ⟨g8, 0, none⟩) ∧ s9 = .pointer (some ⟨g9, 0, none⟩) ∧ Hid (SD w B5 [(g6, X), (g7, Y)] wx ∧ Brow wx g8 31 U ∧ Brow wx g9 31 V))
    case first =>
      (try dsimp only [Act.put, List.setIfInBounds_toArray, List.set_cons_zero, List.set_cons_succ])
      refine anyH_begin (S := SD w B5 [(g6, X), (g7, Y)]) (by kernel_rfl) ?_
      refine anyH_pureG 0 (d := 31) (op := .move (.tmp 1)) (gd := none) (.slice ba n bc) (by rfl) (fun o ho => wanted_plain ho _) (by kernel_rfl) (by kernel_rfl) (by kernel_rfl) (fun _ _ _ h => h) (fun o ho W hW => by unfold execOp; simp only [ho]; go_simp) HS.out ?_
      simp only [Act.put, List.setIfInBounds_toArray, List.set_cons_zero, List.set_cons_succ]
      refine anyH_pureG 1 (d := 32) (op := .move (.tmp 5)) (gd := none) (.int .i64 (k : Int)) (by rfl) (fun o ho => wanted_plain ho _) (by kernel_rfl) (by kernel_rfl) (by kernel_rfl) (fun _ _ _ h => h) (fun o ho W hW => by unfold execOp; simp only [ho]; go_simp) HS.out ?_
      simp only [Act.put, List.setIfInBounds_toArray, List.set_cons_zero, List.set_cons_succ]
      refine anyH_pureG 2 (d := 33) (op := .slice 22 (.tmp 31) none (some (.tmp 32)) none) (gd := none) (.slice ba k bc) (by rfl) (fun o ho => wanted_plain ho _) (by kernel_rfl) (by kernel_rfl) (by kernel_rfl) (fun _ _ _ h => h) (fun o ho W hW => exec_dhead dtR (x := .tmp 31) (y := .tmp 32) ba n bc k (by omega) _ (by rfl) (by rfl) o ho W) HS.out ?_
      simp only [Act.put, List.setIfInBounds_toArray, List.set_cons_zero, List.set_cons_succ]
      refine anyH_pureG 4 (d := 35) (op := .move (.tmp 1)) (gd := none) (.slice ba n bc) (by rfl) (fun o ho => wanted_plain ho _) (by kernel_rfl) (by kernel_rfl) (by kernel_rfl) (fun _ _ _ h => h) (fun o ho W hW => by unfold execOp; simp only [ho]; go_simp) HS.out ?_
      simp only [Act.put, List.setIfInBounds_toArray, List.set_cons_zero, List.set_cons_succ]
      refine anyH_pureG 5 (d := 36) (op := .move (.tmp 5)) (gd := none) (.int .i64 (k : Int)) (by rfl) (fun o ho => wanted_plain ho _) (by kernel_rfl) (by kernel_rfl) (by kernel_rfl) (fun _ _ _ h => h) (fun o ho W hW => by unfold execOp; simp only [ho]; go_simp) HS.out ?_
      simp only [Act.put, List.setIfInBounds_toArray, List.set_cons_zero, List.set_cons_succ]
      refine anyH_pureG 6 (d := 37) (op := .slice 22 (.tmp 35) (some (.tmp 36)) none none) (gd := none) (.slice (sld ba bc k) (n - k) (bc - k)) (by rfl) (fun o ho => wanted_plain ho _) (by kernel_rfl) (by kernel_rfl) (by kernel_rfl) (fun _ _ _ h => h) (fun o ho W hW => exec_dcut dtR (x := .tmp 35) (y := .tmp 36) ba n bc k (by omega) _ (by rfl) (by rfl) o ho W) HS.out ?_
      simp only [Act.put, List.setIfInBounds_toArray, List.set_cons_zero, List.set_cons_succ]
      refine wpAnyH_all (rs := [3, 8, 9]) (by kernel_rfl) (by simp) ?_
      intro k hk; simp only [List.mem_cons, List.not_mem_nil, or_false] at hk; rcases hk with rfl | rfl | rfl
      · refine op_at 3 (d := some 34) (op := .call { callee := .value (.func 12), args := #[(.tmp 33)], argTypes := #[22] }) (by rfl) ?_
        intro o0 hod hoo
        refine wp_call_fn (R := _) hoo (vs := #[.slice ba k bc]) (by go_simp) (by go_simp) (HU.out wc.drew HS.out.1) ?_
        rintro e w59 ⟨rfl, hb⟩
        refine ⟨_, rfl, HS.out.step hb, ?_⟩
        rw [hod]
        have HS := Lib.hid (HS.out.step hb)
        clear hod hoo hb
        simp only [Act.put, List.setIfInBounds_toArray, List.set_cons_zero, List.set_cons_succ]
        refine wpAnyH_all (rs := [7, 8, 9]) (by kernel_rfl) (by simp) ?_
        intro k hk; simp only [List.mem_cons, List.not_mem_nil, or_false] at hk; rcases hk with rfl | rfl | rfl
        · refine op_at 7 (d := some 38) (op := .call { callee := .value (.func 12), args := #[(.tmp 37)], argTypes := #[22] }) (by rfl) ?_
          intro o0 hod hoo
          refine wp_call_fn (R := _) hoo (vs := #[.slice (sld ba bc k) (n - k) (bc - k)]) (by go_simp) (by go_simp) (HV.out w59 HS.out.1) ?_
          rintro e w60 ⟨rfl, hb⟩
          refine ⟨_, rfl, HS.out.step hb, ?_⟩
          rw [hod]
          have HS := Lib.hid (HS.out.step hb)
          clear hod hoo hb
          simp only [Act.put, List.setIfInBounds_toArray, List.set_cons_zero, List.set_cons_succ]
          refine wpAnyH_all (rs := [8, 9]) (by kernel_rfl) (by simp) ?_
          intro k hk; simp only [List.mem_cons, List.not_mem_nil, or_false] at hk; rcases hk with rfl | rfl
          · refine op_at 8 (d := some 8) (op := .alloc 31) (by rfl) ?_
            intro o0 hod hoo
            refine wp_alloc_32 hoo ?_
            have hb : Below w60.heap.size w60 (w60.alloc (.cells (cellsOf zs32).toArray 31)) := (Below.refl _ _).alloc (Nat.le_refl _) _
            refine ⟨HS.out.step hb, ?_⟩
            rw [hod]
            obtain ⟨g8, hg8⟩ : ∃ g, g = w60.heap.size := ⟨_, rfl⟩
            rw [← hg8]
            refine gen_anyH (F := fun W => Brow W g8 31 zs32 ∧ SD w B5 [(g6, X), (g7, Y)] W) ⟨(by rw [hg8]; exact heap_new _ _), (HS.out.step hb)⟩ ?_
            have hNg8 : B5 ≤ g8 := by have := HS.out.2.2.1; omega
            rintro w61 ⟨ha, hs⟩
            clear hg8 hb hod hoo HS
            have H8 := Lib.hid ha
            have HS := Lib.hid hs
            clear ha hs
            simp only [Act.put, List.setIfInBounds_toArray, List.set_cons_zero, List.set_cons_succ]
            refine wpAnyH_all (rs := [9]) (by kernel_rfl) (by simp) ?_
            intro k hk; simp only [List.mem_cons, List.not_mem_nil, or_false] at hk; subst hk
            refine op_at 9 (d := some 9) (op := .alloc 31) (by rfl) ?_
            intro o0 hod hoo
            refine wp_alloc_32 hoo ?_
            have hb : Below w61.heap.size w61 (w61.alloc (.cells (cellsOf zs32).toArray 31)) := (Below.refl _ _).alloc (Nat.le_refl _) _
            refine ⟨HS.out.step hb, ?_⟩
            rw [hod]
            obtain ⟨g9, hg9⟩ : ∃ g, g = w61.heap.size := ⟨_, rfl⟩
            rw [← hg9]
            refine gen_anyH (F := fun W => Brow W g9 31 zs32 ∧ SD w B5 [(g6, X), (g7, Y)] W ∧ Brow W g8 31 zs32) ⟨(by rw [hg9]; exact heap_new _ _), (HS.out.step hb), (H8.out.below hb H8.out.lt)⟩ ?_
            have hneg8 : g8 ≠ g9 := by have := H8.out.lt; omega
            have hNg9 : B5 ≤ g9 := by have := HS.out.2.2.1; omega
            rintro w62 ⟨ha, hs, hH8⟩
            clear hg9 hb hod hoo HS
            have H9 := Lib.hid ha
            have HS := Lib.hid hs
            have H8 := Lib.hid hH8
            clear ha hs hH8
            simp only [Act.put, List.setIfInBounds_toArray, List.set_cons_zero, List.set_cons_succ]
            have hdd : g8 ≠ g9 := by first | assumption | (intro h; exact absurd h.symm (by assumption))
            refine wpAnyH_all (rs := [10]) (by kernel_rfl) (by simp) ?_
            intro k hk; simp only [List.mem_cons, List.not_mem_nil, or_false] at hk; subst hk
            refine op_at 10 (d := none) (op := .store 31 (.tmp 8) (.tmp 34)) (by rfl) ?_
            intro o0 hod hoo
            refine wp_store_mid 31 (.tmp 8) (.tmp 34) hoo g8 0 (cellsOf U).toArray (by rfl) (by rfl) (H8.out.there _ (by rw [cellsOf_size, HUD.out.1]; rfl)) (info32 dtR HUD.out) (cellsOf_all _) ?_
            rw [hod, List.toList_toArray]
            have ho : Only g8 w62 (w62.setCells g8 0 (cellsOf U)) := Only.setCells (cellsOf U) 0 (Only.refl _ _)
            refine ⟨HS.out.only ho hNg8, ?_⟩
            refine gen_anyH (F := fun W => SD w B5 [(g6, X), (g7, Y)] W ∧ Brow W g8 31 U ∧ Brow W g9 31 zs32) ⟨HS.out.only ho hNg8, H8.out.setAll (by rw [HUD.out.1]; rfl), H9.out.only ho (Ne.symm hdd)⟩ ?_
            rintro w63 ⟨hs, ha, hb⟩
            clear hod hoo ho HS H8 H9
            have HS := Lib.hid hs
            have H8 := Lib.hid ha
            have H9 := Lib.hid hb
            clear hs ha hb
            simp only [Act.put]
            refine wpAnyH_all (rs := [11]) (by kernel_rfl) (by simp) ?_
            intro k hk; simp only [List.mem_cons, List.not_mem_nil, or_false] at hk; subst hk
            refine op_at 11 (d := none) (op := .store 31 (.tmp 9) (.tmp 38)) (by rfl) ?_
            intro o0 hod hoo
            refine wp_store_mid 31 (.tmp 9) (.tmp 38) hoo g9 0 (cellsOf V).toArray (by rfl) (by rfl) (H9.out.there _ (by rw [cellsOf_size, HVD.out.1]; rfl)) (info32 dtR HVD.out) (cellsOf_all _) ?_
            rw [hod, List.toList_toArray]
            have ho : Only g9 w63 (w63.setCells g9 0 (cellsOf V)) := Only.setCells (cellsOf V) 0 (Only.refl _ _)
            refine ⟨HS.out.only ho hNg9, ?_⟩
            refine gen_anyH (F := fun W => SD w B5 [(g6, X), (g7, Y)] W ∧ Brow W g8 31 U ∧ Brow W g9 31 V) ⟨HS.out.only ho hNg9, H8.out.only ho hdd, H9.out.setAll (by rw [HVD.out.1]; rfl)⟩ ?_
            intro w64 hf
            have HF := Lib.hid hf
            clear hod hoo ho hf HS H8 H9
            simp only [Act.put]
            refine wpAnyH_done (by kernel_rfl) ?_ _
            go_wp2_with fail
            go_meet
            exact ⟨g8, g9, rfl, rfl, HF⟩
          · refine op_at 9 (d := some 9) (op := .alloc 31) (by rfl) ?_
            intro o0 hod hoo
            refine wp_alloc_32 hoo ?_
            have hb : Below w60.heap.size w60 (w60.alloc (.cells (cellsOf zs32).toArray 31)) := (Below.refl _ _).alloc (Nat.le_refl _) _
            refine ⟨HS.out.step hb, ?_⟩
            rw [hod]
            obtain ⟨g9, hg9⟩ : ∃ g, g = w60.heap.size := ⟨_, rfl⟩
            rw [← hg9]
            refine gen_anyH (F := fun W => Brow W g9 31 zs32 ∧ SD w B5 [(g6, X), (g7, Y)] W) ⟨(by rw [hg9]; exact heap_new _ _), (HS.out.step hb)⟩ ?_
            have hNg9 : B5 ≤ g9 := by have := HS.out.2.2.1; omega
            rintro w65 ⟨ha, hs⟩
            clear hg9 hb hod hoo HS
            have H9 := Lib.hid ha
            have HS := Lib.hid hs
            clear ha hs
            simp only [Act.put, List.setIfInBounds_toArray, List.set_cons_zero, List.set_cons_succ]
            refine wpAnyH_all (rs := [8]) (by kernel_rfl) (by simp) ?_
            intro k hk; simp only [List.mem_cons, List.not_mem_nil, or_false] at hk; subst hk
            refine op_at 8 (d := some 8) (op := .alloc 31) (by rfl) ?_
            intro o0 hod hoo
            refine wp_alloc_32 hoo ?_
            have hb : Below w65.heap.size w65 (w65.alloc (.cells (cellsOf zs32).toArray 31)) := (Below.refl _ _).alloc (Nat.le_refl _) _
            refine ⟨HS.out.step hb, ?_⟩
            rw [hod]
            obtain ⟨g8, hg8⟩ : ∃ g, g = w65.heap.size := ⟨_, rfl⟩
            rw [← hg8]
            refine gen_anyH (F := fun W => Brow W g8 31 zs32 ∧ SD w B5 [(g6, X), (g7, Y)] W ∧ Brow W g9 31 zs32) ⟨(by rw [hg8]; exact heap_new _ _), (HS.out.step hb), (H9.out.below hb H9.out.lt)⟩ ?_
            have hneg9 : g9 ≠ g8 := by have := H9.out.lt; omega
            have hNg8 : B5 ≤ g8 := by have := HS.out.2.2.1; omega
            rintro w66 ⟨ha, hs, hH9⟩
            clear hg8 hb hod hoo HS
            have H8 := Lib.hid ha
            have HS := Lib.hid hs
            have H9 := Lib.hid hH9
            clear ha hs hH9
            simp only [Act.put, List.setIfInBounds_toArray, List.set_cons_zero, List.set_cons_succ]
            have hdd : g8 ≠ g9 := by first | assumption | (intro h; exact absurd h.symm (by assumption))
            refine wpAnyH_all (rs := [10]) (by kernel_rfl) (by simp) ?_
            intro k hk; simp only [List.mem_cons, List.not_mem_nil, or_false] at hk; subst hk
            refine op_at 10 (d := none) (op := .store 31 (.tmp 8) (.tmp 34)) (by rfl) ?_
            intro o0 hod hoo
            refine wp_store_mid 31 (.tmp 8) (.tmp 34) hoo g8 0 (cellsOf U).toArray (by rfl) (by rfl) (H8.out.there _ (by rw [cellsOf_size, HUD.out.1]; rfl)) (info32 dtR HUD.out) (cellsOf_all _) ?_
            rw [hod, List.toList_toArray]
            have ho : Only g8 w66 (w66.setCells g8 0 (cellsOf U)) := Only.setCells (cellsOf U) 0 (Only.refl _ _)
            refine ⟨HS.out.only ho hNg8, ?_⟩
            refine gen_anyH (F := fun W => SD w B5 [(g6, X), (g7, Y)] W ∧ Brow W g8 31 U ∧ Brow W g9 31 zs32) ⟨HS.out.only ho hNg8, H8.out.setAll (by rw [HUD.out.1]; rfl), H9.out.only ho (Ne.symm hdd)⟩ ?_
            rintro w67 ⟨hs, ha, hb⟩
            clear hod hoo ho HS H8 H9
            have HS := Lib.hid hs
            have H8 := Lib.hid ha
            have H9 := Lib.hid hb
            clear hs ha hb
            simp only [Act.put]
            refine wpAnyH_all (rs := [11]) (by kernel_rfl) (by simp) ?_
            intro k hk; simp only [List.mem_cons, List.not_mem_nil, or_false] at hk; subst hk
            refine op_at 11 (d := none) (op := .store 31 (.tmp 9) (.tmp 38)) (by rfl) ?_
            intro o0 hod hoo
            refine wp_store_mid 31 (.tmp 9) (.tmp 38) hoo g9 0 (cellsOf V).toArray (by rfl) (by rfl) (H9.out.there _ (by rw [cellsOf_size, HVD.out.1]; rfl)) (info32 dtR HVD.out) (cellsOf_all _) ?_
            rw [hod, List.toList_toArray]
            have ho : Only g9 w67 (w67.setCells g9 0 (cellsOf V)) := Only.setCells (cellsOf V) 0 (Only.refl _ _)
            refine ⟨HS.out.only ho hNg9, ?_⟩
            refine gen_anyH (F := fun W => SD w B5 [(g6, X), (g7, Y)] W ∧ Brow W g8 31 U ∧ Brow W g9 31 V) ⟨HS.out.only ho hNg9, H8.out.only ho hdd, H9.out.setAll (by rw [HVD.out.1]; rfl)⟩ ?_
            intro w68 hf
            have HF := Lib.hid hf
            clear hod hoo ho hf HS H8 H9
            simp only [Act.put]
            refine wpAnyH_done (by kernel_rfl) ?_ _
            go_wp2_with fail
            go_meet
            exact ⟨g8, g9, rfl, rfl, HF⟩
        · refine op_at 8 (d := some 8) (op := .alloc 31) (by rfl) ?_
          intro o0 hod hoo
          refine wp_alloc_32 hoo ?_
          have hb : Below w59.heap.size w59 (w59.alloc (.cells (cellsOf zs32).toArray 31)) := (Below.refl _ _).alloc (Nat.le_refl _) _
          refine ⟨HS.out.step hb, ?_⟩
          rw [hod]
          obtain ⟨g8, hg8⟩ : ∃ g, g = w59.heap.size := ⟨_, rfl⟩
          rw [← hg8]
          refine gen_anyH (F := fun W => Brow W g8 31 zs32 ∧ SD w B5 [(g6, X), (g7, Y)] W) ⟨(by rw [hg8]; exact heap_new _ _), (HS.out.step hb)⟩ ?_
          have hNg8 : B5 ≤ g8 := by have := HS.out.2.2.1; omega
          rintro w69 ⟨ha, hs⟩
          clear hg8 hb hod hoo HS
          have H8 := Lib.hid ha
          have HS := Lib.hid hs
          clear ha hs
          simp only [Act.put, List.setIfInBounds_toArray, List.set_cons_zero, List.set_cons_succ]
          refine wpAnyH_all (rs := [7, 9]) (by kernel_rfl) (by simp) ?_
          intro k hk; simp only [List.mem_cons, List.not_mem_nil, or_false] at hk; rcases hk with rfl | rfl
          · refine op_at 7 (d := some 38) (op := .call { callee := .value (.func 12), args := #[(.tmp 37)], argTypes := #[22] }) (by rfl) ?_
            intro o0 hod hoo
            refine wp_call_fn (R := _) hoo (vs := #[.slice (sld ba bc k) (n - k) (bc - k)]) (by go_simp) (by go_simp) (HV.out w69 HS.out.1) ?_
            rintro e w70 ⟨rfl, hb⟩
            refine ⟨_, rfl, HS.out.step hb, ?_⟩
            rw [hod]
            have H8 := Lib.hid (H8.out.below hb H8.out.lt)
            have HS := Lib.hid (HS.out.step hb)
            clear hod hoo hb
            simp only [Act.put, List.setIfInBounds_toArray, List.set_cons_zero, List.set_cons_succ]
            refine wpAnyH_all (rs := [9]) (by kernel_rfl) (by simp) ?_
            intro k hk; simp only [List.mem_cons, List.not_mem_nil, or_false] at hk; subst hk
            refine op_at 9 (d := some 9) (op := .alloc 31) (by rfl) ?_
            intro o0 hod hoo
            refine wp_alloc_32 hoo ?_
            have hb : Below w70.heap.size w70 (w70.alloc (.cells (cellsOf zs32).toArray 31)) := (Below.refl _ _).alloc (Nat.le_refl _) _
            refine ⟨HS.out.step hb, ?_⟩
            rw [hod]
            obtain ⟨g9, hg9⟩ : ∃ g, g = w70.heap.size := ⟨_, rfl⟩
            rw [← hg9]
            refine gen_anyH (F := fun W => Brow W g9 31 zs32 ∧ SD w B5 [(g6, X), (g7, Y)] W ∧ Brow W g8 31 zs32) ⟨(by rw [hg9]; exact heap_new _ _), (HS.out.step hb), (H8.out.below hb H8.out.lt)⟩ ?_
            have hneg8 : g8 ≠ g9 := by have := H8.out.lt; omega
            have hNg9 : B5 ≤ g9 := by have := HS.out.2.2.1; omega
            rintro w71 ⟨ha, hs, hH8⟩
            clear hg9 hb hod hoo HS
            have H9 := Lib.hid ha
            have HS := Lib.hid hs
            have H8 := Lib.hid hH8
            clear ha hs hH8
            simp only [Act.put, List.setIfInBounds_toArray, List.set_cons_zero, List.set_cons_succ]
            have hdd : g8 ≠ g9 := by first | assumption | (intro h; exact absurd h.symm (by assumption))
            refine wpAnyH_all (rs := [10]) (by kernel_rfl) (by simp) ?_
            intro k hk; simp only [List.mem_cons, List.not_mem_nil, or_false] at hk; subst hk
            refine op_at 10 (d := none) (op := .store 31 (.tmp 8) (.tmp 34)) (by rfl) ?_
            intro o0 hod hoo
            refine wp_store_mid 31 (.tmp 8) (.tmp 34) hoo g8 0 (cellsOf U).toArray (by rfl) (by rfl) (H8.out.there _ (by rw [cellsOf_size, HUD.out.1]; rfl)) (info32 dtR HUD.out) (cellsOf_all _) ?_
            rw [hod, List.toList_toArray]
            have ho : Only g8 w71 (w71.setCells g8 0 (cellsOf U)) := Only.setCells (cellsOf U) 0 (Only.refl _ _)
            refine ⟨HS.out.only ho hNg8, ?_⟩
            refine gen_anyH (F := fun W => SD w B5 [(g6, X), (g7, Y)] W ∧ Brow W g8 31 U ∧ Brow W g9 31 zs32) ⟨HS.out.only ho hNg8, H8.out.setAll (by rw [HUD.out.1]; rfl), H9.out.only ho (Ne.symm hdd)⟩ ?_
            rintro w72 ⟨hs, ha, hb⟩
            clear hod hoo ho HS H8 H9
            have HS := Lib.hid hs
            have H8 := Lib.hid ha
            have H9 := Lib.hid hb
            clear hs ha hb
            simp only [Act.put]
            refine wpAnyH_all (rs := [11]) (by kernel_rfl) (by simp) ?_
            intro k hk; simp only [List.mem_cons, List.not_mem_nil, or_false] at hk; subst hk
            refine op_at 11 (d := none) (op := .store 31 (.tmp 9) (.tmp 38)) (by rfl) ?_
            intro o0 hod hoo
            refine wp_store_mid 31 (.tmp 9) (.tmp 38) hoo g9 0 (cellsOf V).toArray (by rfl) (by rfl) (H9.out.there _ (by rw [cellsOf_size, HVD.out.1]; rfl)) (info32 dtR HVD.out) (cellsOf_all _) ?_
            rw [hod, List.toList_toArray]
            have ho : Only g9 w72 (w72.setCells g9 0 (cellsOf V)) := Only.setCells (cellsOf V) 0 (Only.refl _ _)
            refine ⟨HS.out.only ho hNg9, ?_⟩
            refine gen_anyH (F := fun W => SD w B5 [(g6, X), (g7, Y)] W ∧ Brow W g8 31 U ∧ Brow W g9 31 V) ⟨HS.out.only ho hNg9, H8.out.only ho hdd, H9.out.setAll (by rw [HVD.out.1]; rfl)⟩ ?_
            intro w73 hf
            have HF := Lib.hid hf
            clear hod hoo ho hf HS H8 H9
            simp only [Act.put]
            refine wpAnyH_done (by kernel_rfl) ?_ _
            go_wp2_with fail
            go_meet
            exact ⟨g8, g9, rfl, rfl, HF⟩
          · refine op_at 9 (d := some 9) (op := .alloc 31) (by rfl) ?_
            intro o0 hod hoo
            refine wp_alloc_32 hoo ?_
            have hb : Below w69.heap.size w69 (w69.alloc (.cells (cellsOf zs32).toArray 31)) := (Below.refl _ _).alloc (Nat.le_refl _) _
            refine ⟨HS.out.step hb, ?_⟩
            rw [hod]
            obtain ⟨g9, hg9⟩ : ∃ g, g = w69.heap.size := ⟨_, rfl⟩
            rw [← hg9]
            refine gen_anyH (F := fun W => Brow W g9 31 zs32 ∧ SD w B5 [(g6, X), (g7, Y)] W ∧ Brow W g8 31 zs32) ⟨(by rw [hg9]; exact heap_new _ _), (HS.out.step hb), (H8.out.below hb H8.out.lt)⟩ ?_
            have hneg8 : g8 ≠ g9 := by have := H8.out.lt; omega
            have hNg9 : B5 ≤ g9 := by have := HS.out.2.2.1; omega
            rintro w74 ⟨ha, hs, hH8⟩
            clear hg9 hb hod hoo HS
            have H9 := Lib.hid ha
            have HS := Lib.hid hs
            have H8 := Lib.hid hH8
            clear ha hs hH8
            simp only [Act.put, List.setIfInBounds_toArray, List.set_cons_zero, List.set_cons_succ]
            refine wpAnyH_all (rs := [7]) (by kernel_rfl) (by simp) ?_
            intro k hk; simp only [List.mem_cons, List.not_mem_nil, or_false] at hk; subst hk
            refine op_at 7 (d := some 38) (op := .call { callee := .value (.func 12), args := #[(.tmp 37)], argTypes := #[22] }) (by rfl) ?_
            intro o0 hod hoo
            refine wp_call_fn (R := _) hoo (vs := #[.slice (sld ba bc k) (n - k) (bc - k)]) (by go_simp) (by go_simp) (HV.out w74 HS.out.1) ?_
            rintro e w75 ⟨rfl, hb⟩
            refine ⟨_, rfl, HS.out.step hb, ?_⟩
            rw [hod]
            have H8 := Lib.hid (H8.out.below hb H8.out.lt)
            have H9 := Lib.hid (H9.out.below hb H9.out.lt)
            have HS := Lib.hid (HS.out.step hb)
            clear hod hoo hb
            simp only [Act.put, List.setIfInBounds_toArray, List.set_cons_zero, List.set_cons_succ]
            have hdd : g8 ≠ g9 := by first | assumption | (intro h; exact absurd h.symm (by assumption))
            refine wpAnyH_all (rs := [10]) (by kernel_rfl) (by simp) ?_
            intro k hk; simp only [List.mem_cons, List.not_mem_nil, or_false] at hk; subst hk
            refine op_at 10 (d := none) (op := .store 31 (.tmp 8) (.tmp 34)) (by rfl) ?_
            intro o0 hod hoo
            refine wp_store_mid 31 (.tmp 8) (.tmp 34) hoo g8 0 (cellsOf U).toArray (by rfl) (by rfl) (H8.out.there _ (by rw [cellsOf_size, HUD.out.1]; rfl)) (info32 dtR HUD.out) (cellsOf_all _) ?_
            rw [hod, List.toList_toArray]
            have ho : Only g8 w75 (w75.setCells g8 0 (cellsOf U)) := Only.setCells (cellsOf U) 0 (Only.refl _ _)
            refine ⟨HS.out.only ho hNg8, ?_⟩
            refine gen_anyH (F := fun W => SD w B5 [(g6, X), (g7, Y)] W ∧ Brow W g8 31 U ∧ Brow W g9 31 zs32) ⟨HS.out.only ho hNg8, H8.out.setAll (by rw [HUD.out.1]; rfl), H9.out.only ho (Ne.symm hdd)⟩ ?_
            rintro w76 ⟨hs, ha, hb⟩
            clear hod hoo ho HS H8 H9
            have HS := Lib.hid hs
            have H8 := Lib.hid ha
            have H9 := Lib.hid hb
            clear hs ha hb
            simp only [Act.put]
            refine wpAnyH_all (rs := [11]) (by kernel_rfl) (by simp) ?_
            intro k hk; simp only [List.mem_cons, List.not_mem_nil, or_false] at hk; subst hk
            refine op_at 11 (d := none) (op := .store 31 (.tmp 9) (.tmp 38)) (by rfl) ?_
            intro o0 hod hoo
            refine wp_store_mid 31 (.tmp 9) (.tmp 38) hoo g9 0 (cellsOf V).toArray (by rfl) (by rfl) (H9.out.there _ (by rw [cellsOf_size, HVD.out.1]; rfl)) (info32 dtR HVD.out) (cellsOf_all _) ?_
            rw [hod, List.toList_toArray]
            have ho : Only g9 w76 (w76.setCells g9 0 (cellsOf V)) := Only.setCells (cellsOf V) 0 (Only.refl _ _)
            refine ⟨HS.out.only ho hNg9, ?_⟩
            refine gen_anyH (F := fun W => SD w B5 [(g6, X), (g7, Y)] W ∧ Brow W g8 31 U ∧ Brow W g9 31 V) ⟨HS.out.only ho hNg9, H8.out.only ho hdd, H9.out.setAll (by rw [HVD.out.1]; rfl)⟩ ?_
            intro w77 hf
            have HF := Lib.hid hf
            clear hod hoo ho hf HS H8 H9
            simp only [Act.put]
            refine wpAnyH_done (by kernel_rfl) ?_ _
            go_wp2_with fail
            go_meet
            exact ⟨g8, g9, rfl, rfl, HF⟩
        · refine op_at 9 (d := some 9) (op := .alloc 31) (by rfl) ?_
          intro o0 hod hoo
          refine wp_alloc_32 hoo ?_
          have hb : Below w59.heap.size w59 (w59.alloc (.cells (cellsOf zs32).toArray 31)) := (Below.refl _ _).alloc (Nat.le_refl _) _
          refine ⟨HS.out.step hb, ?_⟩
          rw [hod]
          obtain ⟨g9, hg9⟩ : ∃ g, g = w59.heap.size := ⟨_, rfl⟩
          rw [← hg9]
          refine gen_anyH (F := fun W => Brow W g9 31 zs32 ∧ SD w B5 [(g6, X), (g7, Y)] W) ⟨(by rw [hg9]; exact heap_new _ _), (HS.out.step hb)⟩ ?_
          have hNg9 : B5 ≤ g9 := by have := HS.out.2.2.1; omega
          rintro w78 ⟨ha, hs⟩
          clear hg9 hb hod hoo HS
          have H9 := Lib.hid ha
          have HS := Lib.hid hs
          clear ha hs
          simp only [Act.put, List.setIfInBounds_toArray, List.set_cons_zero, List.set_cons_succ]
          refine wpAnyH_all (rs := [7, 8]) (by kernel_rfl) (by simp) ?_
          intro k hk; simp only [List.mem_cons, List.not_mem_nil, or_false] at hk; rcases hk with rfl | rfl
          · refine op_at 7 (d := some 38) (op := .call { callee := .value (.func 12), args := #[(.tmp 37)], argTypes := #[22] }) (by rfl) ?_
            intro o0 hod hoo
            refine wp_call_fn (R := _) hoo (vs := #[.slice (sld ba bc k) (n - k) (bc - k)]) (by go_simp) (by go_simp) (HV.out w78 HS.out.1) ?_
            rintro e w79 ⟨rfl, hb⟩
            refine ⟨_, rfl, HS.out.step hb, ?_⟩
            rw [hod]
            have H9 := Lib.hid (H9.out.below hb H9.out.lt)
            have HS := Lib.hid (HS.out.step hb)
            clear hod hoo hb
            simp only [Act.put, List.setIfInBounds_toArray, List.set_cons_zero, List.set_cons_succ]
            refine wpAnyH_all (rs := [8]) (by kernel_rfl) (by simp) ?_
            intro k hk; simp only [List.mem_cons, List.not_mem_nil, or_false] at hk; subst hk
            refine op_at 8 (d := some 8) (op := .alloc 31) (by rfl) ?_
            intro o0 hod hoo
            refine wp_alloc_32 hoo ?_
            have hb : Below w79.heap.size w79 (w79.alloc (.cells (cellsOf zs32).toArray 31)) := (Below.refl _ _).alloc (Nat.le_refl _) _
            refine ⟨HS.out.step hb, ?_⟩
            rw [hod]
            obtain ⟨g8, hg8⟩ : ∃ g, g = w79.heap.size := ⟨_, rfl⟩
            rw [← hg8]
            refine gen_anyH (F := fun W => Brow W g8 31 zs32 ∧ SD w B5 [(g6, X), (g7, Y)] W ∧ Brow W g9 31 zs32) ⟨(by rw [hg8]; exact heap_new _ _), (HS.out.step hb), (H9.out.below hb H9.out.lt)⟩ ?_
            have hneg9 : g9 ≠ g8 := by have := H9.out.lt; omega
            have hNg8 : B5 ≤ g8 := by have := HS.out.2.2.1; omega
            rintro w80 ⟨ha, hs, hH9⟩
            clear hg8 hb hod hoo HS
            have H8 := Lib.hid ha
            have HS := Lib.hid hs
            have H9 := Lib.hid hH9
            clear ha hs hH9
            simp only [Act.put, List.setIfInBounds_toArray, List.set_cons_zero, List.set_cons_succ]
            have hdd : g8 ≠ g9 := by first | assumption | (intro h; exact absurd h.symm (by assumption))
            refine wpAnyH_all (rs := [10]) (by kernel_rfl) (by simp) ?_
            intro k hk; simp only [List.mem_cons, List.not_mem_nil, or_false] at hk; subst hk
            refine op_at 10 (d := none) (op := .store 31 (.tmp 8) (.tmp 34)) (by rfl) ?_
            intro o0 hod hoo
            refine wp_store_mid 31 (.tmp 8) (.tmp 34) hoo g8 0 (cellsOf U).toArray (by rfl) (by rfl) (H8.out.there _ (by rw [cellsOf_size, HUD.out.1]; rfl)) (info32 dtR HUD.out) (cellsOf_all _) ?_
            rw [hod, List.toList_toArray]
            have ho : Only g8 w80 (w80.setCells g8 0 (cellsOf U)) := Only.setCells (cellsOf U) 0 (Only.refl _ _)
            refine ⟨HS.out.only ho hNg8, ?_⟩
            refine gen_anyH (F := fun W => SD w B5 [(g6, X), (g7, Y)] W ∧ Brow W g8 31 U ∧ Brow W g9 31 zs32) ⟨HS.out.only ho hNg8, H8.out.setAll (by rw [HUD.out.1]; rfl), H9.out.only ho (Ne.symm hdd)⟩ ?_
            rintro w81 ⟨hs, ha, hb⟩
            clear hod hoo ho HS H8 H9
            have HS := Lib.hid hs
            have H8 := Lib.hid ha
            have H9 := Lib.hid hb
            clear hs ha hb
            simp only [Act.put]
            refine wpAnyH_all (rs := [11]) (by kernel_rfl) (by simp) ?_
            intro k hk; simp only [List.mem_cons, List.not_mem_nil, or_false] at hk; subst hk
            refine op_at 11 (d := none) (op := .store 31 (.tmp 9) (.tmp 38)) (by rfl) ?_
            intro o0 hod hoo
            refine wp_store_mid 31 (.tmp 9) (.tmp 38) hoo g9 0 (cellsOf V).toArray (by rfl) (by rfl) (H9.out.there _ (by rw [cellsOf_size, HVD.out.1]; rfl)) (info32 dtR HVD.out) (cellsOf_all _) ?_
            rw [hod, List.toList_toArray]
            have ho : Only g9 w81 (w81.setCells g9 0 (cellsOf V)) := Only.setCells (cellsOf V) 0 (Only.refl _ _)
            refine ⟨HS.out.only ho hNg9, ?_⟩
            refine gen_anyH (F := fun W => SD w B5 [(g6, X), (g7, Y)] W ∧ Brow W g8 31 U ∧ Brow W g9 31 V) ⟨HS.out.only ho hNg9, H8.out.only ho hdd, H9.out.setAll (by rw [HVD.out.1]; rfl)⟩ ?_
            intro w82 hf
            have HF := Lib.hid hf
            clear hod hoo ho hf HS H8 H9
            simp only [Act.put]
            refine wpAnyH_done (by kernel_rfl) ?_ _
            go_wp2_with fail
            go_meet
            exact ⟨g8, g9, rfl, rfl, HF⟩
          · refine op_at 8 (d := some 8) (op := .alloc 31) (by rfl) ?_
            intro o0 hod hoo
            refine wp_alloc_32 hoo ?_
            have hb : Below w78.heap.size w78 (w78.alloc (.cells (cellsOf zs32).toArray 31)) := (Below.refl _ _).alloc (Nat.le_refl _) _
            refine ⟨HS.out.step hb, ?_⟩
            rw [hod]
            obtain ⟨g8, hg8⟩ : ∃ g, g = w78.heap.size := ⟨_, rfl⟩
            rw [← hg8]
            refine gen_anyH (F := fun W => Brow W g8 31 zs32 ∧ SD w B5 [(g6, X), (g7, Y)] W ∧ Brow W g9 31 zs32) ⟨(by rw [hg8]; exact heap_new _ _), (HS.out.step hb), (H9.out.below hb H9.out.lt)⟩ ?_
            have hneg9 : g9 ≠ g8 := by have := H9.out.lt; omega
            have hNg8 : B5 ≤ g8 := by have := HS.out.2.2.1; omega
            rintro w83 ⟨ha, hs, hH9⟩
            clear hg8 hb hod hoo HS
            have H8 := Lib.hid ha
            have HS := Lib.hid hs
            have H9 := Lib.hid hH9
            clear ha hs hH9
            simp only [Act.put, List.setIfInBounds_toArray, List.set_cons_zero, List.set_cons_succ]
            refine wpAnyH_all (rs := [7]) (by kernel_rfl) (by simp) ?_
            intro k hk; simp only [List.mem_cons, List.not_mem_nil, or_false] at hk; subst hk
            refine op_at 7 (d := some 38) (op := .call { callee := .value (.func 12), args := #[(.tmp 37)], argTypes := #[22] }) (by rfl) ?_
            intro o0 hod hoo
            refine wp_call_fn (R := _) hoo (vs := #[.slice (sld ba bc k) (n - k) (bc - k)]) (by go_simp) (by go_simp) (HV.out w83 HS.out.1) ?_
            rintro e w84 ⟨rfl, hb⟩
            refine ⟨_, rfl, HS.out.step hb, ?_⟩
            rw [hod]
            have H8 := Lib.hid (H8.out.below hb H8.out.lt)
            have H9 := Lib.hid (H9.out.below hb H9.out.lt)
            have HS := Lib.hid (HS.out.step hb)
            clear hod hoo hb
            simp only [Act.put, List.setIfInBounds_toArray, List.set_cons_zero, List.set_cons_succ]
            have hdd : g8 ≠ g9 := by first | assumption | (intro h; exact absurd h.symm (by assumption))
            refine wpAnyH_all (rs := [10]) (by kernel_rfl) (by simp) ?_
            intro k hk; simp only [List.mem_cons, List.not_mem_nil, or_false] at hk; subst hk
            refine op_at 10 (d := none) (op := .store 31 (.tmp 8) (.tmp 34)) (by rfl) ?_
            intro o0 hod hoo
            refine wp_store_mid 31 (.tmp 8) (.tmp 34) hoo g8 0 (cellsOf U).toArray (by rfl) (by rfl) (H8.out.there _ (by rw [cellsOf_size, HUD.out.1]; rfl)) (info32 dtR HUD.out) (cellsOf_all _) ?_
            rw [hod, List.toList_toArray]
            have ho : Only g8 w84 (w84.setCells g8 0 (cellsOf U)) := Only.setCells (cellsOf U) 0 (Only.refl _ _)
            refine ⟨HS.out.only ho hNg8, ?_⟩
            refine gen_anyH (F := fun W => SD w B5 [(g6, X), (g7, Y)] W ∧ Brow W g8 31 U ∧ Brow W g9 31 zs32) ⟨HS.out.only ho hNg8, H8.out.setAll (by rw [HUD.out.1]; rfl), H9.out.only ho (Ne.symm hdd)⟩ ?_
            rintro w85 ⟨hs, ha, hb⟩
            clear hod hoo ho HS H8 H9
            have HS := Lib.hid hs
            have H8 := Lib.hid ha
            have H9 := Lib.hid hb
            clear hs ha hb
            simp only [Act.put]
            refine wpAnyH_all (rs := [11]) (by kernel_rfl) (by simp) ?_
            intro k hk; simp only [List.mem_cons, List.not_mem_nil, or_false] at hk; subst hk
            refine op_at 11 (d := none) (op := .store 31 (.tmp 9) (.tmp 38)) (by rfl) ?_
            intro o0 hod hoo
            refine wp_store_mid 31 (.tmp 9) (.tmp 38) hoo g9 0 (cellsOf V).toArray (by rfl) (by rfl) (H9.out.there _ (by rw [cellsOf_size, HVD.out.1]; rfl)) (info32 dtR HVD.out) (cellsOf_all _) ?_
            rw [hod, List.toList_toArray]
            have ho : Only g9 w85 (w85.setCells g9 0 (cellsOf V)) := Only.setCells (cellsOf V) 0 (Only.refl _ _)
            refine ⟨HS.out.only ho hNg9, ?_⟩
            refine gen_anyH (F := fun W => SD w B5 [(g6, X), (g7, Y)] W ∧ Brow W g8 31 U ∧ Brow W g9 31 V) ⟨HS.out.only ho hNg9, H8.out.only ho hdd, H9.out.setAll (by rw [HVD.out.1]; rfl)⟩ ?_
            intro w86 hf
            have HF := Lib.hid hf
            clear hod hoo ho hf HS H8 H9
            simp only [Act.put]
            refine wpAnyH_done (by kernel_rfl) ?_ _
            go_wp2_with fail
            go_meet
            exact ⟨g8, g9, rfl, rfl, HF⟩
      · refine op_at 8 (d := some 8) (op := .alloc 31) (by rfl) ?_
        intro o0 hod hoo
        refine wp_alloc_32 hoo ?_
        have hb : Below wc.drew.heap.size wc.drew (wc.drew.alloc (.cells (cellsOf zs32).toArray 31)) := (Below.refl _ _).alloc (Nat.le_refl _) _
        refine ⟨HS.out.step hb, ?_⟩
        rw [hod]
        obtain ⟨g8, hg8⟩ : ∃ g, g = wc.drew.heap.size := ⟨_, rfl⟩
        rw [← hg8]
        refine gen_anyH (F := fun W => Brow W g8 31 zs32 ∧ SD w B5 [(g6, X), (g7, Y)] W) ⟨(by rw [hg8]; exact heap_new _ _), (HS.out.step hb)⟩ ?_
        have hNg8 : B5 ≤ g8 := by have := HS.out.2.2.1; omega
        rintro w87 ⟨ha, hs⟩
        clear hg8 hb hod hoo HS
        have H8 := Lib.hid ha
        have HS := Lib.hid hs
        clear ha hs
        simp only [Act.put, List.setIfInBounds_toArray, List.set_cons_zero, List.set_cons_succ]
        refine wpAnyH_all (rs := [3, 9]) (by kernel_rfl) (by simp) ?_
        intro k hk; simp only [List.mem_cons, List.not_mem_nil, or_false] at hk; rcases hk with rfl | rfl
        · refine op_at 3 (d := some 34) (op := .call { callee := .value (.func 12), args := #[(.tmp 33)], argTypes := #[22] }) (by rfl) ?_
          intro o0 hod hoo
          refine wp_call_fn (R := _) hoo (vs := #[.slice ba k bc]) (by go_simp) (by go_simp) (HU.out w87 HS.out.1) ?_
          rintro e w88 ⟨rfl, hb⟩
          refine ⟨_, rfl, HS.out.step hb, ?_⟩
          rw [hod]
          have H8 := Lib.hid (H8.out.below hb H8.out.lt)
          have HS := Lib.hid (HS.out.step hb)
          clear hod hoo hb
          simp only [Act.put, List.setIfInBounds_toArray, List.set_cons_zero, List.set_cons_succ]
          refine wpAnyH_all (rs := [7, 9]) (by kernel_rfl) (by simp) ?_
          intro k hk; simp only [List.mem_cons, List.not_mem_nil, or_false] at hk; rcases hk with rfl | rfl
          · refine op_at 7 (d := some 38) (op := .call { callee := .value (.func 12), args := #[(.tmp 37)], argTypes := #[22] }) (by rfl) ?_
            intro o0 hod hoo
            refine wp_call_fn (R := _) hoo (vs := #[.slice (sld ba bc k) (n - k) (bc - k)]) (by go_simp) (by go_simp) (HV.out w88 HS.out.1) ?_
            rintro e w89 ⟨rfl, hb⟩
            refine ⟨_, rfl, HS.out.step hb, ?_⟩
            rw [hod]
            have H8 := Lib.hid (H8.out.below hb H8.out.lt)
            have HS := Lib.hid (HS.out.step hb)
            clear hod hoo hb
            simp only [Act.put, List.setIfInBounds_toArray, List.set_cons_zero, List.set_cons_succ]
            refine wpAnyH_all (rs := [9]) (by kernel_rfl) (by simp) ?_
            intro k hk; simp only [List.mem_cons, List.not_mem_nil, or_false] at hk; subst hk
            refine op_at 9 (d := some 9) (op := .alloc 31) (by rfl) ?_
            intro o0 hod hoo
            refine wp_alloc_32 hoo ?_
            have hb : Below w89.heap.size w89 (w89.alloc (.cells (cellsOf zs32).toArray 31)) := (Below.refl _ _).alloc (Nat.le_refl _) _
            refine ⟨HS.out.step hb, ?_⟩
            rw [hod]
            obtain ⟨g9, hg9⟩ : ∃ g, g = w89.heap.size := ⟨_, rfl⟩
            rw [← hg9]
            refine gen_anyH (F := fun W => Brow W g9 31 zs32 ∧ SD w B5 [(g6, X), (g7, Y)] W ∧ Brow W g8 31 zs32) ⟨(by rw [hg9]; exact heap_new _ _), (HS.out.step hb), (H8.out.below hb H8.out.lt)⟩ ?_
            have hneg8 : g8 ≠ g9 := by have := H8.out.lt; omega
            have hNg9 : B5 ≤ g9 := by have := HS.out.2.2.1; omega
            rintro w90 ⟨ha, hs, hH8⟩
            clear hg9 hb hod hoo HS
            have H9 := Lib.hid ha
            have HS := Lib.hid hs
            have H8 := Lib.hid hH8
            clear ha hs hH8
            simp only [Act.put, List.setIfInBounds_toArray, List.set_cons_zero, List.set_cons_succ]
            have hdd : g8 ≠ g9 := by first | assumption | (intro h; exact absurd h.symm (by assumption))
            refine wpAnyH_all (rs := [10]) (by kernel_rfl) (by simp) ?_
            intro k hk; simp only [List.mem_cons, List.not_mem_nil, or_false] at hk; subst hk
            refine op_at 10 (d := none) (op := .store 31 (.tmp 8) (.tmp 34)) (by rfl) ?_
            intro o0 hod hoo
            refine wp_store_mid 31 (.tmp 8) (.tmp 34) hoo g8 0 (cellsOf U).toArray (by rfl) (by rfl) (H8.out.there _ (by rw [cellsOf_size, HUD.out.1]; rfl)) (info32 dtR HUD.out) (cellsOf_all _) ?_
            rw [hod, List.toList_toArray]
            have ho : Only g8 w90 (w90.setCells g8 0 (cellsOf U)) := Only.setCells (cellsOf U) 0 (Only.refl _ _)
            refine ⟨HS.out.only ho hNg8, ?_⟩
            refine gen_anyH (F := fun W => SD w B5 [(g6, X), (g7, Y)] W ∧ Brow W g8 31 U ∧ Brow W g9 31 zs32) ⟨HS.out.only ho hNg8, H8.out.setAll (by rw [HUD.out.1]; rfl), H9.out.only ho (Ne.symm hdd)⟩ ?_
            rintro w91 ⟨hs, ha, hb⟩
            clear hod hoo ho HS H8 H9
            have HS := Lib.hid hs
            have H8 := Lib.hid ha
            have H9 := Lib.hid hb
            clear hs ha hb
            simp only [Act.put]
            refine wpAnyH_all (rs := [11]) (by kernel_rfl) (by simp) ?_
            intro k hk; simp only [List.mem_cons, List.not_mem_nil, or_false] at hk; subst hk
            refine op_at 11 (d := none) (op := .store 31 (.tmp 9) (.tmp 38)) (by rfl) ?_
            intro o0 hod hoo
            refine wp_store_mid 31 (.tmp 9) (.tmp 38) hoo g9 0 (cellsOf V).toArray (by rfl) (by rfl) (H9.out.there _ (by rw [cellsOf_size, HVD.out.1]; rfl)) (info32 dtR HVD.out) (cellsOf_all _) ?_
            rw [hod, List.toList_toArray]
            have ho : Only g9 w91 (w91.setCells g9 0 (cellsOf V)) := Only.setCells (cellsOf V) 0 (Only.refl _ _)
            refine ⟨HS.out.only ho hNg9, ?_⟩
            refine gen_anyH (F := fun W => SD w B5 [(g6, X), (g7, Y)] W ∧ Brow W g8 31 U ∧ Brow W g9 31 V) ⟨HS.out.only ho hNg9, H8.out.only ho hdd, H9.out.setAll (by rw [HVD.out.1]; rfl)⟩ ?_
            intro w92 hf
            have HF := Lib.hid hf
            clear hod hoo ho hf HS H8 H9
            simp only [Act.put]
            refine wpAnyH_done (by kernel_rfl) ?_ _
            go_wp2_with fail
            go_meet
            exact ⟨g8, g9, rfl, rfl, HF⟩
          · refine op_at 9 (d := some 9) (op := .alloc 31) (by rfl) ?_
            intro o0 hod hoo
            refine wp_alloc_32 hoo ?_
            have hb : Below w88.heap.size w88 (w88.alloc (.cells (cellsOf zs32).toArray 31)) := (Below.refl _ _).alloc (Nat.le_refl _) _
            refine ⟨HS.out.step hb, ?_⟩
            rw [hod]
            obtain ⟨g9, hg9⟩ : ∃ g, g = w88.heap.size := ⟨_, rfl⟩
            rw [← hg9]
            refine gen_anyH (F := fun W => Brow W g9 31 zs32 ∧ SD w B5 [(g6, X), (g7, Y)] W ∧ Brow W g8 31 zs32) ⟨(by rw [hg9]; exact heap_new _ _), (HS.out.step hb), (H8.out.below hb H8.out.lt)⟩ ?_
            have hneg8 : g8 ≠ g9 := by have := H8.out.lt; omega
            have hNg9 : B5 ≤ g9 := by have := HS.out.2.2.1; omega
            rintro w93 ⟨ha, hs, hH8⟩
            clear hg9 hb hod hoo HS
            have H9 := Lib.hid ha
            have HS := Lib.hid hs
            have H8 := Lib.hid hH8
            clear ha hs hH8
            simp only [Act.put, List.setIfInBounds_toArray, List.set_cons_zero, List.set_cons_succ]
            refine wpAnyH_all (rs := [7]) (by kernel_rfl) (by simp) ?_
            intro k hk; simp only [List.mem_cons, List.not_mem_nil, or_false] at hk; subst hk
            refine op_at 7 (d := some 38) (op := .call { callee := .value (.func 12), args := #[(.tmp 37)], argTypes := #[22] }) (by rfl) ?_
            intro o0 hod hoo
            refine wp_call_fn (R := _) hoo (vs := #[.slice (sld ba bc k) (n - k) (bc - k)]) (by go_simp) (by go_simp) (HV.out w93 HS.out.1) ?_
            rintro e w94 ⟨rfl, hb⟩
            refine ⟨_, rfl, HS.out.step hb, ?_⟩
            rw [hod]
            have H8 := Lib.hid (H8.out.below hb H8.out.lt)
            have H9 := Lib.hid (H9.out.below hb H9.out.lt)
            have HS := Lib.hid (HS.out.step hb)
            clear hod hoo hb
            simp only [Act.put, List.setIfInBounds_toArray, List.set_cons_zero, List.set_cons_succ]
            have hdd : g8 ≠ g9 := by first | assumption | (intro h; exact absurd h.symm (by assumption))
            refine wpAnyH_all (rs := [10]) (by kernel_rfl) (by simp) ?_
            intro k hk; simp only [List.mem_cons, List.not_mem_nil, or_false] at hk; subst hk
            refine op_at 10 (d := none) (op := .store 31 (.tmp 8) (.tmp 34)) (by rfl) ?_
            intro o0 hod hoo
            refine wp_store_mid 31 (.tmp 8) (.tmp 34) hoo g8 0 (cellsOf U).toArray (by rfl) (by rfl) (H8.out.there _ (by rw [cellsOf_size, HUD.out.1]; rfl)) (info32 dtR HUD.out) (cellsOf_all _) ?_
            rw [hod, List.toList_toArray]
            have ho : Only g8 w94 (w94.setCells g8 0 (cellsOf U)) := Only.setCells (cellsOf U) 0 (Only.refl _ _)
            refine ⟨HS.out.only ho hNg8, ?_⟩
            refine gen_anyH (F := fun W => SD w B5 [(g6, X), (g7, Y)] W ∧ Brow W g8 31 U ∧ Brow W g9 31 zs32) ⟨HS.out.only ho hNg8, H8.out.setAll (by rw [HUD.out.1]; rfl), H9.out.only ho (Ne.symm hdd)⟩ ?_
            rintro w95 ⟨hs, ha, hb⟩
            clear hod hoo ho HS H8 H9
            have HS := Lib.hid hs
            have H8 := Lib.hid ha
            have H9 := Lib.hid hb
            clear hs ha hb
            simp only [Act.put]
            refine wpAnyH_all (rs := [11]) (by kernel_rfl) (by simp) ?_
            intro k hk; simp only [List.mem_cons, List.not_mem_nil, or_false] at hk; subst hk
            refine op_at 11 (d := none) (op := .store 31 (.tmp 9) (.tmp 38)) (by rfl) ?_
            intro o0 hod hoo
            refine wp_store_mid 31 (.tmp 9) (.tmp 38) hoo g9 0 (cellsOf V).toArray (by rfl) (by rfl) (H9.out.there _ (by rw [cellsOf_size, HVD.out.1]; rfl)) (info32 dtR HVD.out) (cellsOf_all _) ?_
            rw [hod, List.toList_toArray]
            have ho : Only g9 w95 (w95.setCells g9 0 (cellsOf V)) := Only.setCells (cellsOf V) 0 (Only.refl _ _)
            refine ⟨HS.out.only ho hNg9, ?_⟩
            refine gen_anyH (F := fun W => SD w B5 [(g6, X), (g7, Y)] W ∧ Brow W g8 31 U ∧ Brow W g9 31 V) ⟨HS.out.only ho hNg9, H8.out.only ho hdd, H9.out.setAll (by rw [HVD.out.1]; rfl)⟩ ?_
            intro w96 hf
            have HF := Lib.hid hf
            clear hod hoo ho hf HS H8 H9
            simp only [Act.put]
            refine wpAnyH_done (by kernel_rfl) ?_ _
            go_wp2_with fail
            go_meet
            exact ⟨g8, g9, rfl, rfl, HF⟩
        · refine op_at 9 (d := some 9) (op := .alloc 31) (by rfl) ?_
          intro o0 hod hoo
          refine wp_alloc_32 hoo ?_
          have hb : Below w87.heap.size w87 (w87.alloc (.cells (cellsOf zs32).toArray 31)) := (Below.refl _ _).alloc (Nat.le_refl _) _
          refine ⟨HS.out.step hb, ?_⟩
          rw [hod]
          obtain ⟨g9, hg9⟩ : ∃ g, g = w87.heap.size := ⟨_, rfl⟩
          rw [← hg9]
          refine gen_anyH (F := fun W => Brow W g9 31 zs32 ∧ SD w B5 [(g6, X), (g7, Y)] W ∧ Brow W g8 31 zs32) ⟨(by rw [hg9]; exact heap_new _ _), (HS.out.step hb), (H8.out.below hb H8.out.lt)⟩ ?_
          have hneg8 : g8 ≠ g9 := by have := H8.out.lt; omega
          have hNg9 : B5 ≤ g9 := by have := HS.out.2.2.1; omega
          rintro w97 ⟨ha, hs, hH8⟩
          clear hg9 hb hod hoo HS
          have H9 := Lib.hid ha
          have HS := Lib.hid hs
          have H8 := Lib.hid hH8
          clear ha hs hH8
          simp only [Act.put, List.setIfInBounds_toArray, List.set_cons_zero, List.set_cons_succ]
          refine wpAnyH_all (rs := [3]) (by kernel_rfl) (by simp) ?_
          intro k hk; simp only [List.mem_cons, List.not_mem_nil, or_false] at hk; subst hk
          refine op_at 3 (d := some 34) (op := .call { callee := .value (.func 12), args := #[(.tmp 33)], argTypes := #[22] }) (by rfl) ?_
          intro o0 hod hoo
          refine wp_call_fn (R := _) hoo (vs := #[.slice ba k bc]) (by go_simp) (by go_simp) (HU.out w97 HS.out.1) ?_
          rintro e w98 ⟨rfl, hb⟩
          refine ⟨_, rfl, HS.out.step hb, ?_⟩
          rw [hod]
          have H8 := Lib.hid (H8.out.below hb H8.out.lt)
          have H9 := Lib.hid (H9.out.below hb H9.out.lt)
          have HS := Lib.hid (HS.out.step hb)
          clear hod hoo hb
          simp only [Act.put, List.setIfInBounds_toArray, List.set_cons_zero, List.set_cons_succ]
          refine wpAnyH_all (rs := [7]) (by kernel_rfl) (by simp) ?_
          intro k hk; simp only [List.mem_cons, List.not_mem_nil, or_false] at hk; subst hk
          refine op_at 7 (d := some 38) (op := .call { callee := .value (.func 12), args := #[(.tmp 37)], argTypes := #[22] }) (by rfl) ?_
          intro o0 hod hoo
          refine wp_call_fn (R := _) hoo (vs := #[.slice (sld ba bc k) (n - k) (bc - k)]) (by go_simp) (by go_simp) (HV.out w98 HS.out.1) ?_
          rintro e w99 ⟨rfl, hb⟩
          refine ⟨_, rfl, HS.out.step hb, ?_⟩
          rw [hod]
          have H8 := Lib.hid (H8.out.below hb H8.out.lt)
          have H9 := Lib.hid (H9.out.below hb H9.out.lt)
          have HS := Lib.hid (HS.out.step hb)
          clear hod hoo hb
          simp only [Act.put, List.setIfInBounds_toArray, List.set_cons_zero, List.set_cons_succ]
          have hdd : g8 ≠ g9 := by first | assumption | (intro h; exact absurd h.symm (by assumption))
          refine wpAnyH_all (rs := [10]) (by kernel_rfl) (by simp) ?_
          intro k hk; simp only [List.mem_cons, List.not_mem_nil, or_false] at hk; subst hk
          refine op_at 10 (d := none) (op := .store 31 (.tmp 8) (.tmp 34)) (by rfl) ?_
          intro o0 hod hoo
          refine wp_store_mid 31 (.tmp 8) (.tmp 34) hoo g8 0 (cellsOf U).toArray (by rfl) (by rfl) (H8.out.there _ (by rw [cellsOf_size, HUD.out.1]; rfl)) (info32 dtR HUD.out) (cellsOf_all _) ?_
          rw [hod, List.toList_toArray]
          have ho : Only g8 w99 (w99.setCells g8 0 (cellsOf U)) := Only.setCells (cellsOf U) 0 (Only.refl _ _)
          refine ⟨HS.out.only ho hNg8, ?_⟩
          refine gen_anyH (F := fun W => SD w B5 [(g6, X), (g7, Y)] W ∧ Brow W g8 31 U ∧ Brow W g9 31 zs32) ⟨HS.out.only ho hNg8, H8.out.setAll (by rw [HUD.out.1]; rfl), H9.out.only ho (Ne.symm hdd)⟩ ?_
          rintro w100 ⟨hs, ha, hb⟩
          clear hod hoo ho HS H8 H9
          have HS := Lib.hid hs
          have H8 := Lib.hid ha
          have H9 := Lib.hid hb
          clear hs ha hb
          simp only [Act.put]
          refine wpAnyH_all (rs := [11]) (by kernel_rfl) (by simp) ?_
          intro k hk; simp only [List.mem_cons, List.not_mem_nil, or_false] at hk; subst hk
          refine op_at 11 (d := none) (op := .store 31 (.tmp 9) (.tmp 38)) (by rfl) ?_
          intro o0 hod hoo
          refine wp_store_mid 31 (.tmp 9) (.tmp 38) hoo g9 0 (cellsOf V).toArray (by rfl) (by rfl) (H9.out.there _ (by rw [cellsOf_size, HVD.out.1]; rfl)) (info32 dtR HVD.out) (cellsOf_all _) ?_
          rw [hod, List.toList_toArray]
          have ho : Only g9 w100 (w100.setCells g9 0 (cellsOf V)) := Only.setCells (cellsOf V) 0 (Only.refl _ _)
          refine ⟨HS.out.only ho hNg9, ?_⟩
          refine gen_anyH (F := fun W => SD w B5 [(g6, X), (g7, Y)] W ∧ Brow W g8 31 U ∧ Brow W g9 31 V) ⟨HS.out.only ho hNg9, H8.out.only ho hdd, H9.out.setAll (by rw [HVD.out.1]; rfl)⟩ ?_
          intro w101 hf
          have HF := Lib.hid hf
          clear hod hoo ho hf HS H8 H9
          simp only [Act.put]
          refine wpAnyH_done (by kernel_rfl) ?_ _
          go_wp2_with fail
          go_meet
          exact ⟨g8, g9, rfl, rfl, HF⟩
      · refine op_at 9 (d := some 9) (op := .alloc 31) (by rfl) ?_
        intro o0 hod hoo
        refine wp_alloc_32 hoo ?_
        have hb : Below wc.drew.heap.size wc.drew (wc.drew.alloc (.cells (cellsOf zs32).toArray 31)) := (Below.refl _ _).alloc (Nat.le_refl _) _
        refine ⟨HS.out.step hb, ?_⟩
        rw [hod]
        obtain ⟨g9, hg9⟩ : ∃ g, g = wc.drew.heap.size := ⟨_, rfl⟩
        rw [← hg9]
        refine gen_anyH (F := fun W => Brow W g9 31 zs32 ∧ SD w B5 [(g6, X), (g7, Y)] W) ⟨(by rw [hg9]; exact heap_new _ _), (HS.out.step hb)⟩ ?_
        have hNg9 : B5 ≤ g9 := by have := HS.out.2.2.1; omega
        rintro w102 ⟨ha, hs⟩
        clear hg9 hb hod hoo HS
        have H9 := Lib.hid ha
        have HS := Lib.hid hs
        clear ha hs
        simp only [Act.put, List.setIfInBounds_toArray, List.set_cons_zero, List.set_cons_succ]
        refine wpAnyH_all (rs := [3, 8]) (by kernel_rfl) (by simp) ?_
        intro k hk; simp only [List.mem_cons, List.not_mem_nil, or_false] at hk; rcases hk with rfl | rfl
        · refine op_at 3 (d := some 34) (op := .call { callee := .value (.func 12), args := #[(.tmp 33)], argTypes := #[22] }) (by rfl) ?_
          intro o0 hod hoo
          refine wp_call_fn (R := _) hoo (vs := #[.slice ba k bc]) (by go_simp) (by go_simp) (HU.out w102 HS.out.1) ?_
          rintro e w103 ⟨rfl, hb⟩
          refine ⟨_, rfl, HS.out.step hb, ?_⟩
          rw [hod]
          have H9 := Lib.hid (H9.out.below hb H9.out.lt)
          have HS := Lib.hid (HS.out.step hb)
          clear hod hoo hb
          simp only [Act.put, List.setIfInBounds_toArray, List.set_cons_zero, List.set_cons_succ]
          refine wpAnyH_all (rs := [7, 8]) (by kernel_rfl) (by simp) ?_
          intro k hk; simp only [List.mem_cons, List.not_mem_nil, or_false] at hk; rcases hk with rfl | rfl
          · refine op_at 7 (d := some 38) (op := .call { callee := .value (.func 12), args := #[(.tmp 37)], argTypes := #[22] }) (by rfl) ?_
            intro o0 hod hoo
            refine wp_call_fn (R := _) hoo (vs := #[.slice (sld ba bc k) (n - k) (bc - k)]) (by go_simp) (by go_simp) (HV.out w103 HS.out.1) ?_
            rintro e w104 ⟨rfl, hb⟩
            refine ⟨_, rfl, HS.out.step hb, ?_⟩
            rw [hod]
            have H9 := Lib.hid (H9.out.below hb H9.out.lt)
            have HS := Lib.hid (HS.out.step hb)
            clear hod hoo hb
            simp only [Act.put, List.setIfInBounds_toArray, List.set_cons_zero, List.set_cons_succ]
            refine wpAnyH_all (rs := [8]) (by kernel_rfl) (by simp) ?_
            intro k hk; simp only [List.mem_cons, List.not_mem_nil, or_false] at hk; subst hk
            refine op_at 8 (d := some 8) (op := .alloc 31) (by rfl) ?_
            intro o0 hod hoo
            refine wp_alloc_32 hoo ?_
            have hb : Below w104.heap.size w104 (w104.alloc (.cells (cellsOf zs32).toArray 31)) := (Below.refl _ _).alloc (Nat.le_refl _) _
            refine ⟨HS.out.step hb, ?_⟩
            rw [hod]
            obtain ⟨g8, hg8⟩ : ∃ g, g = w104.heap.size := ⟨_, rfl⟩
            rw [← hg8]
            refine gen_anyH (F := fun W => Brow W g8 31 zs32 ∧ SD w B5 [(g6, X), (g7, Y)] W ∧ Brow W g9 31 zs32) ⟨(by rw [hg8]; exact heap_new _ _), (HS.out.step hb), (H9.out.below hb H9.out.lt)⟩ ?_
            have hneg9 : g9 ≠ g8 := by have := H9.out.lt; omega
            have hNg8 : B5 ≤ g8 := by have := HS.out.2.2.1; omega
            rintro w105 ⟨ha, hs, hH9⟩
            clear hg8 hb hod hoo HS
            have H8 := Lib.hid ha
            have HS := Lib.hid hs
            have H9 := Lib.hid hH9
            clear ha hs hH9
            simp only [Act.put, List.setIfInBounds_toArray, List.set_cons_zero, List.set_cons_succ]
            have hdd : g8 ≠ g9 := by first | assumption | (intro h; exact absurd h.symm (by assumption))
            refine wpAnyH_all (rs := [10]) (by kernel_rfl) (by simp) ?_
            intro k hk; simp only [List.mem_cons, List.not_mem_nil, or_false] at hk; subst hk
            refine op_at 10 (d := none) (op := .store 31 (.tmp 8) (.tmp 34)) (by rfl) ?_
            intro o0 hod hoo
            refine wp_store_mid 31 (.tmp 8) (.tmp 34) hoo g8 0 (cellsOf U).toArray (by rfl) (by rfl) (H8.out.there _ (by rw [cellsOf_size, HUD.out.1]; rfl)) (info32 dtR HUD.out) (cellsOf_all _) ?_
            rw [hod, List.toList_toArray]
            have ho : Only g8 w105 (w105.setCells g8 0 (cellsOf U)) := Only.setCells (cellsOf U) 0 (Only.refl _ _)
            refine ⟨HS.out.only ho hNg8, ?_⟩
            refine gen_anyH (F := fun W => SD w B5 [(g6, X), (g7, Y)] W ∧ Brow W g8 31 U ∧ Brow W g9 31 zs32) ⟨HS.out.only ho hNg8, H8.out.setAll (by rw [HUD.out.1]; rfl), H9.out.only ho (Ne.symm hdd)⟩ ?_
            rintro w106 ⟨hs, ha, hb⟩
            clear hod hoo ho HS H8 H9
            have HS := Lib.hid hs
            have H8 := Lib.hid ha
            have H9 := Lib.hid hb
            clear hs ha hb
            simp only [Act.put]
            refine wpAnyH_all (rs := [11]) (by kernel_rfl) (by simp) ?_
            intro k hk; simp only [List.mem_cons, List.not_mem_nil, or_false] at hk; subst hk
            refine op_at 11 (d := none) (op := .store 31 (.tmp 9) (.tmp 38)) (by rfl) ?_
            intro o0 hod hoo
            refine wp_store_mid 31 (.tmp 9) (.tmp 38) hoo g9 0 (cellsOf V).toArray (by rfl) (by rfl) (H9.out.there _ (by rw [cellsOf_size, HVD.out.1]; rfl)) (info32 dtR HVD.out) (cellsOf_all _) ?_
            rw [hod, List.toList_toArray]
            have ho : Only g9 w106 (w106.setCells g9 0 (cellsOf V)) := Only.setCells (cellsOf V) 0 (Only.refl _ _)
            refine ⟨HS.out.only ho hNg9, ?_⟩
            refine gen_anyH (F := fun W => SD w B5 [(g6, X), (g7, Y)] W ∧ Brow W g8 31 U ∧ Brow W g9 31 V) ⟨HS.out.only ho hNg9, H8.out.only ho hdd, H9.out.setAll (by rw [HVD.out.1]; rfl)⟩ ?_
            intro w107 hf
            have HF := Lib.hid hf
            clear hod hoo ho hf HS H8 H9
            simp only [Act.put]
            refine wpAnyH_done (by kernel_rfl) ?_ _
            go_wp2_with fail
            go_meet
            exact ⟨g8, g9, rfl, rfl, HF⟩
          · refine op_at 8 (d := some 8) (op := .alloc 31) (by rfl) ?_
            intro o0 hod hoo
            refine wp_alloc_32 hoo ?_
            have hb : Below w103.heap.size w103 (w103.alloc (.cells (cellsOf zs32).toArray 31)) := (Below.refl _ _).alloc (Nat.le_refl _) _
            refine ⟨HS.out.step hb, ?_⟩
            rw [hod]
            obtain ⟨g8, hg8⟩ : ∃ g, g = w103.heap.size := ⟨_, rfl⟩
            rw [← hg8]
            refine gen_anyH (F := fun W => Brow W g8 31 zs32 ∧ SD w B5 [(g6, X), (g7, Y)] W ∧ Brow W g9 31 zs32) ⟨(by rw [hg8]; exact heap_new _ _), (HS.out.step hb), (H9.out.below hb H9.out.lt)⟩ ?_
            have hneg9 : g9 ≠ g8 := by have := H9.out.lt; omega
            have hNg8 : B5 ≤ g8 := by have := HS.out.2.2.1; omega
            rintro w108 ⟨ha, hs, hH9⟩
            clear hg8 hb hod hoo HS
            have H8 := Lib.hid ha
            have HS := Lib.hid hs
            have H9 := Lib.hid hH9
            clear ha hs hH9
            simp only [Act.put, List.setIfInBounds_toArray, List.set_cons_zero, List.set_cons_succ]
            refine wpAnyH_all (rs := [7]) (by kernel_rfl) (by simp) ?_
            intro k hk; simp only [List.mem_cons, List.not_mem_nil, or_false] at hk; subst hk
            refine op_at 7 (d := some 38) (op := .call { callee := .value (.func 12), args := #[(.tmp 37)], argTypes := #[22] }) (by rfl) ?_
            intro o0 hod hoo
            refine wp_call_fn (R := _) hoo (vs := #[.slice (sld ba bc k) (n - k) (bc - k)]) (by go_simp) (by go_simp) (HV.out w108 HS.out.1) ?_
            rintro e w109 ⟨rfl, hb⟩
            refine ⟨_, rfl, HS.out.step hb, ?_⟩
            rw [hod]
            have H8 := Lib.hid (H8.out.below hb H8.out.lt)
            have H9 := Lib.hid (H9.out.below hb H9.out.lt)
            have HS := Lib.hid (HS.out.step hb)
            clear hod hoo hb
            simp only [Act.put, List.setIfInBounds_toArray, List.set_cons_zero, List.set_cons_succ]
            have hdd : g8 ≠ g9 := by first | assumption | (intro h; exact absurd h.symm (by assumption))
            refine wpAnyH_all (rs := [10]) (by kernel_rfl) (by simp) ?_
            intro k hk; simp only [List.mem_cons, List.not_mem_nil, or_false] at hk; subst hk
            refine op_at 10 (d := none) (op := .store 31 (.tmp 8) (.tmp 34)) (by rfl) ?_
            intro o0 hod hoo
            refine wp_store_mid 31 (.tmp 8) (.tmp 34) hoo g8 0 (cellsOf U).toArray (by rfl) (by rfl) (H8.out.there _ (by rw [cellsOf_size, HUD.out.1]; rfl)) (info32 dtR HUD.out) (cellsOf_all _) ?_
            rw [hod, List.toList_toArray]
            have ho : Only g8 w109 (w109.setCells g8 0 (cellsOf U)) := Only.setCells (cellsOf U) 0 (Only.refl _ _)
            refine ⟨HS.out.only ho hNg8, ?_⟩
            refine gen_anyH (F := fun W => SD w B5 [(g6, X), (g7, Y)] W ∧ Brow W g8 31 U ∧ Brow W g9 31 zs32) ⟨HS.out.only ho hNg8, H8.out.setAll (by rw [HUD.out.1]; rfl), H9.out.only ho (Ne.symm hdd)⟩ ?_
            rintro w110 ⟨hs, ha, hb⟩
            clear hod hoo ho HS H8 H9
            have HS := Lib.hid hs
            have H8 := Lib.hid ha
            have H9 := Lib.hid hb
            clear hs ha hb
            simp only [Act.put]
            refine wpAnyH_all (rs := [11]) (by kernel_rfl) (by simp) ?_
            intro k hk; simp only [List.mem_cons, List.not_mem_nil, or_false] at hk; subst hk
            refine op_at 11 (d := none) (op := .store 31 (.tmp 9) (.tmp 38)) (by rfl) ?_
            intro o0 hod hoo
            refine wp_store_mid 31 (.tmp 9) (.tmp 38) hoo g9 0 (cellsOf V).toArray (by rfl) (by rfl) (H9.out.there _ (by rw [cellsOf_size, HVD.out.1]; rfl)) (info32 dtR HVD.out) (cellsOf_all _) ?_
            rw [hod, List.toList_toArray]
            have ho : Only g9 w110 (w110.setCells g9 0 (cellsOf V)) := Only.setCells (cellsOf V) 0 (Only.refl _ _)
            refine ⟨HS.out.only ho hNg9, ?_⟩
            refine gen_anyH (F := fun W => SD w B5 [(g6, X), (g7, Y)] W ∧ Brow W g8 31 U ∧ Brow W g9 31 V) ⟨HS.out.only ho hNg9, H8.out.only ho hdd, H9.out.setAll (by rw [HVD.out.1]; rfl)⟩ ?_
            intro w111 hf
            have HF := Lib.hid hf
            clear hod hoo ho hf HS H8 H9
            simp only [Act.put]
            refine wpAnyH_done (by kernel_rfl) ?_ _
            go_wp2_with fail
            go_meet
            exact ⟨g8, g9, rfl, rfl, HF⟩
        · refine op_at 8 (d := some 8) (op := .alloc 31) (by rfl) ?_
          intro o0 hod hoo
          refine wp_alloc_32 hoo ?_
          have hb : Below w102.heap.size w102 (w102.alloc (.cells (cellsOf zs32).toArray 31)) := (Below.refl _ _).alloc (Nat.le_refl _) _
          refine ⟨HS.out.step hb, ?_⟩
          rw [hod]
          obtain ⟨g8, hg8⟩ : ∃ g, g = w102.heap.size := ⟨_, rfl⟩
          rw [← hg8]
          refine gen_anyH (F := fun W => Brow W g8 31 zs32 ∧ SD w B5 [(g6, X), (g7, Y)] W ∧ Brow W g9 31 zs32) ⟨(by rw [hg8]; exact heap_new _ _), (HS.out.step hb), (H9.out.below hb H9.out.lt)⟩ ?_
          have hneg9 : g9 ≠ g8 := by have := H9.out.lt; omega
          have hNg8 : B5 ≤ g8 := by have := HS.out.2.2.1; omega
          rintro w112 ⟨ha, hs, hH9⟩
          clear hg8 hb hod hoo HS
          have H8 := Lib.hid ha
          have HS := Lib.hid hs
          have H9 := Lib.hid hH9
          clear ha hs hH9
          simp only [Act.put, List.setIfInBounds_toArray, List.set_cons_zero, List.set_cons_succ]
          refine wpAnyH_all (rs := [3]) (by kernel_rfl) (by simp) ?_
          intro k hk; simp only [List.mem_cons, List.not_mem_nil, or_false] at hk; subst hk
          refine op_at 3 (d := some 34) (op := .call { callee := .value (.func 12), args := #[(.tmp 33)], argTypes := #[22] }) (by rfl) ?_
          intro o0 hod hoo
          refine wp_call_fn (R := _) hoo (vs := #[.slice ba k bc]) (by go_simp) (by go_simp) (HU.out w112 HS.out.1) ?_
          rintro e w113 ⟨rfl, hb⟩
          refine ⟨_, rfl, HS.out.step hb, ?_⟩
          rw [hod]
          have H8 := Lib.hid (H8.out.below hb H8.out.lt)
          have H9 := Lib.hid (H9.out.below hb H9.out.lt)
          have HS := Lib.hid (HS.out.step hb)
          clear hod hoo hb
          simp only [Act.put, List.setIfInBounds_toArray, List.set_cons_zero, List.set_cons_succ]
          refine wpAnyH_all (rs := [7]) (by kernel_rfl) (by simp) ?_
          intro k hk; simp only [List.mem_cons, List.not_mem_nil, or_false] at hk; subst hk
          refine op_at 7 (d := some 38) (op := .call { callee := .value (.func 12), args := #[(.tmp 37)], argTypes := #[22] }) (by rfl) ?_
          intro o0 hod hoo
          refine wp_call_fn (R := _) hoo (vs := #[.slice (sld ba bc k) (n - k) (bc - k)]) (by go_simp) (by go_simp) (HV.out w113 HS.out.1) ?_
          rintro e w114 ⟨rfl, hb⟩
          refine ⟨_, rfl, HS.out.step hb, ?_⟩
          rw [hod]
          have H8 := Lib.hid (H8.out.below hb H8.out.lt)
          have H9 := Lib.hid (H9.out.below hb H9.out.lt)
          have HS := Lib.hid (HS.out.step hb)
          clear hod hoo hb
          simp only [Act.put, List.setIfInBounds_toArray, List.set_cons_zero, List.set_cons_succ]
          have hdd : g8 ≠ g9 := by first | assumption | (intro h; exact absurd h.symm (by assumption))
          refine wpAnyH_all (rs := [10]) (by kernel_rfl) (by simp) ?_
          intro k hk; simp only [List.mem_cons, List.not_mem_nil, or_false] at hk; subst hk
          refine op_at 10 (d := none) (op := .store 31 (.tmp 8) (.tmp 34)) (by rfl) ?_
          intro o0 hod hoo
          refine wp_store_mid 31 (.tmp 8) (.tmp 34) hoo g8 0 (cellsOf U).toArray (by rfl) (by rfl) (H8.out.there _ (by rw [cellsOf_size, HUD.out.1]; rfl)) (info32 dtR HUD.out) (cellsOf_all _) ?_
          rw [hod, List.toList_toArray]
          have ho : Only g8 w114 (w114.setCells g8 0 (cellsOf U)) := Only.setCells (cellsOf U) 0 (Only.refl _ _)
          refine ⟨HS.out.only ho hNg8, ?_⟩
          refine gen_anyH (F := fun W => SD w B5 [(g6, X), (g7, Y)] W ∧ Brow W g8 31 U ∧ Brow W g9 31 zs32) ⟨HS.out.only ho hNg8, H8.out.setAll (by rw [HUD.out.1]; rfl), H9.out.only ho (Ne.symm hdd)⟩ ?_
          rintro w115 ⟨hs, ha, hb⟩
          clear hod hoo ho HS H8 H9
          have HS := Lib.hid hs
          have H8 := Lib.hid ha
          have H9 := Lib.hid hb
          clear hs ha hb
          simp only [Act.put]
          refine wpAnyH_all (rs := [11]) (by kernel_rfl) (by simp) ?_
          intro k hk; simp only [List.mem_cons, List.not_mem_nil, or_false] at hk; subst hk
          refine op_at 11 (d := none) (op := .store 31 (.tmp 9) (.tmp 38)) (by rfl) ?_
          intro o0 hod hoo
          refine wp_store_mid 31 (.tmp 9) (.tmp 38) hoo g9 0 (cellsOf V).toArray (by rfl) (by rfl) (H9.out.there _ (by rw [cellsOf_size, HVD.out.1]; rfl)) (info32 dtR HVD.out) (cellsOf_all _) ?_
          rw [hod, List.toList_toArray]
          have ho : Only g9 w115 (w115.setCells g9 0 (cellsOf V)) := Only.setCells (cellsOf V) 0 (Only.refl _ _)
          refine ⟨HS.out.only ho hNg9, ?_⟩
          refine gen_anyH (F := fun W => SD w B5 [(g6, X), (g7, Y)] W ∧ Brow W g8 31 U ∧ Brow W g9 31 V) ⟨HS.out.only ho hNg9, H8.out.only ho hdd, H9.out.setAll (by rw [HVD.out.1]; rfl)⟩ ?_
          intro w116 hf
          have HF := Lib.hid hf
          clear hod hoo ho hf HS H8 H9
          simp only [Act.put]
          refine wpAnyH_done (by kernel_rfl) ?_ _
          go_wp2_with fail
          go_meet
          exact ⟨g8, g9, rfl, rfl, HF⟩
    case rest =>
      obtain ⟨g8, g9, rfl, rfl, HF⟩ := hcut
      clear HS HU HV
      have HS := Lib.hid (HF.out.1.more HF.out.2.1 HF.out.2.2)
      obtain ⟨B6, hB6⟩ : ∃ B, B = wc.heap.size := ⟨_, rfl⟩
      rw [← hB6] at HS
      clear hB6 HF
      have HL6 := Lib.hid (fun W (hW : SD w B6 [(g8, U), (g9, V), (g6, X), (g7, Y)] W) => run_dload dtR W g6 0 X HXD.out ((hW.2.1 (g6, X) (by simp)).2).range)
      have HL7 := Lib.hid (fun W (hW : SD w B6 [(g8, U), (g9, V), (g6, X), (g7, Y)] W) => run_dload dtR W g7 0 Y HYD.out ((hW.2.1 (g7, Y) (by simp)).2).range)
      have HL8 := Lib.hid (fun W (hW : SD w B6 [(g8, U), (g9, V), (g6, X), (g7, Y)] W) => run_dload dtR W g8 0 U HUD.out ((hW.2.1 (g8, U) (by simp)).2).range)
      have HL9 := Lib.hid (fun W (hW : SD w B6 [(g8, U), (g9, V), (g6, X), (g7, Y)] W) => run_dload dtR W g9 0 V HVD.out ((hW.2.1 (g9, V) (by simp)).2).range)
      by_cases e1 : X = U
      · rw [decide_eq_true e1] at HQ1
        by_cases e2 : Y = V
        · rw [decide_eq_true e2] at HQ2
          have HL := Lib.hid (HL.out e1 e2)
          have HM := Lib.hid (HM.out e1 e2)
          clear e1 e2 HR HNEQ
          by_cases e3 : a.take k = b.take k
          · rw [decide_eq_true e3] at HSAME
            have HM := Lib.hid (HM.out e3)
            clear e3 HL
            go_wp2_with (first | (refine wpList_loadg 31 (.tmp 6) (by rfl) (by rfl) (.pointer (some ⟨g6, 0, none⟩)) (by rfl) (.agg (cellsOf X).toArray) (HL6.out _ HS.out) ?_) | (refine wpList_loadg 31 (.tmp 7) (by rfl) (by rfl) (.pointer (some ⟨g7, 0, none⟩)) (by rfl) (.agg (cellsOf Y).toArray) (HL7.out _ HS.out) ?_) | (refine wpList_loadg 31 (.tmp 8) (by rfl) (by rfl) (.pointer (some ⟨g8, 0, none⟩)) (by rfl) (.agg (cellsOf U).toArray) (HL8.out _ HS.out) ?_) | (refine wpList_loadg 31 (.tmp 9) (by rfl) (by rfl) (.pointer (some ⟨g9, 0, none⟩)) (by rfl) (.agg (cellsOf V).toArray) (HL9.out _ HS.out) ?_) | (refine wpList_neqg 31 _ (.tmp 39) (.tmp 40) (by rfl) (by rfl) (cellsOf X).toArray (cellsOf U).toArray (by rfl) (by rfl) HGT.out _ (HQ1.out _) ?_) | (refine wpList_neqg 31 _ (.tmp 43) (.tmp 44) (by rfl) (by rfl) (cellsOf Y).toArray (cellsOf V).toArray (by rfl) (by rfl) HGT.out _ (HQ2.out _) ?_))
            (try dsimp only [Act.put, List.setIfInBounds_toArray, List.set_cons_zero, List.set_cons_succ])
            have HS := Lib.hid HS.out.drew
            refine anyH_begin (S := SD w B6 [(g8, U), (g9, V), (g6, X), (g7, Y)]) (by kernel_rfl) ?_
            refine anyH_pureG 0 (d := 54) (op := .move (.tmp 0)) (gd := none) (.slice aa n ac) (by rfl) (fun o ho => wanted_plain ho _) (by kernel_rfl) (by kernel_rfl) (by kernel_rfl) (fun _ _ _ h => h) (fun o ho W hW => by unfold execOp; simp only [ho]; go_simp) HS.out ?_
            simp only [Act.put, List.setIfInBounds_toArray, List.set_cons_zero, List.set_cons_succ]
            refine anyH_pureG 1 (d := 55) (op := .move (.tmp 5)) (gd := none) (.int .i64 (k : Int)) (by rfl) (fun o ho => wanted_plain ho _) (by kernel_rfl) (by kernel_rfl) (by kernel_rfl) (fun _ _ _ h => h) (fun o ho W hW => by unfold execOp; simp only [ho]; go_simp) HS.out ?_
            simp only [Act.put, List.setIfInBounds_toArray, List.set_cons_zero, List.set_cons_succ]
            refine anyH_pureG 2 (d := 56) (op := .slice 22 (.tmp 54) none (some (.tmp 55)) none) (gd := none) (.slice aa k ac) (by rfl) (fun o ho => wanted_plain ho _) (by kernel_rfl) (by kernel_rfl) (by kernel_rfl) (fun _ _ _ h => h) (fun o ho W hW => exec_dhead dtR (x := .tmp 54) (y := .tmp 55) aa n ac k (by omega) _ (by rfl) (by rfl) o ho W) HS.out ?_
            simp only [Act.put, List.setIfInBounds_toArray, List.set_cons_zero, List.set_cons_succ]
            refine anyH_pureG 3 (d := 57) (op := .move (.tmp 1)) (gd := none) (.slice ba n bc) (by rfl) (fun o ho => wanted_plain ho _) (by kernel_rfl) (by kernel_rfl) (by kernel_rfl) (fun _ _ _ h => h) (fun o ho W hW => by unfold execOp; simp only [ho]; go_simp) HS.out ?_
            simp only [Act.put, List.setIfInBounds_toArray, List.set_cons_zero, List.set_cons_succ]
            refine anyH_pureG 4 (d := 58) (op := .move (.tmp 5)) (gd := none) (.int .i64 (k : Int)) (by rfl) (fun o ho => wanted_plain ho _) (by kernel_rfl) (by kernel_rfl) (by kernel_rfl) (fun _ _ _ h => h) (fun o ho W hW => by unfold execOp; simp only [ho]; go_simp) HS.out ?_
            simp only [Act.put, List.setIfInBounds_toArray, List.set_cons_zero, List.set_cons_succ]
            refine anyH_pureG 5 (d := 59) (op := .slice 22 (.tmp 57) none (some (.tmp 58)) none) (gd := none) (.slice ba k bc) (by rfl) (fun o ho => wanted_plain ho _) (by kernel_rfl) (by kernel_rfl) (by kernel_rfl) (fun _ _ _ h => h) (fun o ho W hW => exec_dhead dtR (x := .tmp 57) (y := .tmp 58) ba n bc k (by omega) _ (by rfl) (by rfl) o ho W) HS.out ?_
            simp only [Act.put, List.setIfInBounds_toArray, List.set_cons_zero, List.set_cons_succ]
            refine anyH_callG 6 (d := some 60) (f := 13) (xs := #[(.tmp 56), (.tmp 59)]) (ts := #[22, 22]) (gd := none) (vs := #[.slice aa k ac, .slice ba k bc]) (by kernel_rfl) (by rfl) (fun o ho => wanted_plain ho _) (by go_simp) (by go_simp) (HSAME.out _ HS.out.1) ?_
            rintro e98 w98 ⟨rfl, hb98⟩
            refine ⟨_, rfl, HS.out.step hb98, fun hS98 => ?_⟩
            have HS := Lib.hid hS98
            clear hS98 hb98
            simp only [Act.put, List.setIfInBounds_toArray, List.set_cons_zero, List.set_cons_succ]
            refine anyH_pureG 7 (d := 61) (op := .unOp .not 4 (.tmp 60)) (gd := none) (.bool false) (by rfl) (fun o ho => wanted_plain ho _) (by kernel_rfl) (by kernel_rfl) (by kernel_rfl) (fun _ _ _ h => h) (fun o ho W hW => by unfold execOp; simp only [ho]; go_simp) HS.out ?_
            simp only [Act.put, List.setIfInBounds_toArray, List.set_cons_zero, List.set_cons_succ]
            refine wpAnyH_done (by kernel_rfl) ?_ _
            go_wp2_with (first | (refine wpList_loadg 31 (.tmp 6) (by rfl) (by rfl) (.pointer (some ⟨g6, 0, none⟩)) (by rfl) (.agg (cellsOf X).toArray) (HL6.out _ HS.out) ?_) | (refine wpList_loadg 31 (.tmp 7) (by rfl) (by rfl) (.pointer (some ⟨g7, 0, none⟩)) (by rfl) (.agg (cellsOf Y).toArray) (HL7.out _ HS.out) ?_) | (refine wpList_loadg 31 (.tmp 8) (by rfl) (by rfl) (.pointer (some ⟨g8, 0, none⟩)) (by rfl) (.agg (cellsOf U).toArray) (HL8.out _ HS.out) ?_) | (refine wpList_loadg 31 (.tmp 9) (by rfl) (by rfl) (.pointer (some ⟨g9, 0, none⟩)) (by rfl) (.agg (cellsOf V).toArray) (HL9.out _ HS.out) ?_) | (refine wpList_neqg 31 _ (.tmp 39) (.tmp 40) (by rfl) (by rfl) (cellsOf X).toArray (cellsOf U).toArray (by rfl) (by rfl) HGT.out _ (HQ1.out _) ?_) | (refine wpList_neqg 31 _ (.tmp 43) (.tmp 44) (by rfl) (by rfl) (cellsOf Y).toArray (cellsOf V).toArray (by rfl) (by rfl) HGT.out _ (HQ2.out _) ?_))
            (try dsimp only [Act.put, List.setIfInBounds_toArray, List.set_cons_zero, List.set_cons_succ])
            have HS := Lib.hid HS.out.drew
            refine anyH_begin (S := SD w B6 [(g8, U), (g9, V), (g6, X), (g7, Y)]) (by kernel_rfl) ?_
            refine anyH_pureG 0 (d := 69) (op := .move (.tmp 0)) (gd := none) (.slice aa n ac) (by rfl) (fun o ho => wanted_plain ho _) (by kernel_rfl) (by kernel_rfl) (by kernel_rfl) (fun _ _ _ h => h) (fun o ho W hW => by unfold execOp; simp only [ho]; go_simp) HS.out ?_
            simp only [Act.put, List.setIfInBounds_toArray, List.set_cons_zero, List.set_cons_succ]
            refine anyH_pureG 1 (d := 70) (op := .move (.tmp 5)) (gd := none) (.int .i64 (k : Int)) (by rfl) (fun o ho => wanted_plain ho _) (by kernel_rfl) (by kernel_rfl) (by kernel_rfl) (fun _ _ _ h => h) (fun o ho W hW => by unfold execOp; simp only [ho]; go_simp) HS.out ?_
            simp only [Act.put, List.setIfInBounds_toArray, List.set_cons_zero, List.set_cons_succ]
            refine anyH_pureG 2 (d := 71) (op := .slice 22 (.tmp 69) (some (.tmp 70)) none none) (gd := none) (.slice (sld aa ac k) (n - k) (ac - k)) (by rfl) (fun o ho => wanted_plain ho _) (by kernel_rfl) (by kernel_rfl) (by kernel_rfl) (fun _ _ _ h => h) (fun o ho W hW => exec_dcut dtR (x := .tmp 69) (y := .tmp 70) aa n ac k (by omega) _ (by rfl) (by rfl) o ho W) HS.out ?_
            simp only [Act.put, List.setIfInBounds_toArray, List.set_cons_zero, List.set_cons_succ]
            refine anyH_pureG 3 (d := 72) (op := .move (.tmp 1)) (gd := none) (.slice ba n bc) (by rfl) (fun o ho => wanted_plain ho _) (by kernel_rfl) (by kernel_rfl) (by kernel_rfl) (fun _ _ _ h => h) (fun o ho W hW => by unfold execOp; simp only [ho]; go_simp) HS.out ?_
            simp only [Act.put, List.setIfInBounds_toArray, List.set_cons_zero, List.set_cons_succ]
            refine anyH_pureG 4 (d := 73) (op := .move (.tmp 5)) (gd := none) (.int .i64 (k : Int)) (by rfl) (fun o ho => wanted_plain ho _) (by kernel_rfl) (by kernel_rfl) (by kernel_rfl) (fun _ _ _ h => h) (fun o ho W hW => by unfold execOp; simp only [ho]; go_simp) HS.out ?_
            simp only [Act.put, List.setIfInBounds_toArray, List.set_cons_zero, List.set_cons_succ]
            refine anyH_pureG 5 (d := 74) (op := .slice 22 (.tmp 72) (some (.tmp 73)) none none) (gd := none) (.slice (sld ba bc k) (n - k) (bc - k)) (by rfl) (fun o ho => wanted_plain ho _) (by kernel_rfl) (by kernel_rfl) (by kernel_rfl) (fun _ _ _ h => h) (fun o ho W hW => exec_dcut dtR (x := .tmp 72) (y := .tmp 73) ba n bc k (by omega) _ (by rfl) (by rfl) o ho W) HS.out ?_
            simp only [Act.put, List.setIfInBounds_toArray, List.set_cons_zero, List.set_cons_succ]
            refine anyH_callG 6 (d := some 75) (f := 35) (xs := #[(.tmp 71), (.tmp 74)]) (ts := #[22, 22]) (gd := none) (vs := #[.slice (sld aa ac k) (n - k) (ac - k), .slice (sld ba bc k) (n - k) (bc - k)]) (by kernel_rfl) (by rfl) (fun o ho => wanted_plain ho _) (by go_simp) (by go_simp) (HM.out _ HS.out.1) ?_
            rintro e100 w100 ⟨rfl, hb100⟩
            refine ⟨_, rfl, HS.out.step hb100, fun hS100 => ?_⟩
            have HS := Lib.hid hS100
            clear hS100 hb100
            simp only [Act.put, List.setIfInBounds_toArray, List.set_cons_zero, List.set_cons_succ]
            refine anyH_pureG 7 (d := 4) (op := .assign (.tmp 75)) (gd := none) (.bool true) (by rfl) (fun o ho => wanted_plain ho _) (by kernel_rfl) (by kernel_rfl) (by kernel_rfl) (fun _ _ _ h => h) (fun o ho W hW => by unfold execOp; simp only [ho]; go_simp) HS.out ?_
            simp only [Act.put, List.setIfInBounds_toArray, List.set_cons_zero, List.set_cons_succ]
            refine wpAnyH_done (by kernel_rfl) ?_ _
            go_wp2
            go_ret
            exact ⟨rfl, HS.out.1⟩
          · rw [decide_eq_false e3] at HSAME
            have HL := Lib.hid (HL.out e3)
            clear e3 HM
            go_wp2_with (first | (refine wpList_loadg 31 (.tmp 6) (by rfl) (by rfl) (.pointer (some ⟨g6, 0, none⟩)) (by rfl) (.agg (cellsOf X).toArray) (HL6.out _ HS.out) ?_) | (refine wpList_loadg 31 (.tmp 7) (by rfl) (by rfl) (.pointer (some ⟨g7, 0, none⟩)) (by rfl) (.agg (cellsOf Y).toArray) (HL7.out _ HS.out) ?_) | (refine wpList_loadg 31 (.tmp 8) (by rfl) (by rfl) (.pointer (some ⟨g8, 0, none⟩)) (by rfl) (.agg (cellsOf U).toArray) (HL8.out _ HS.out) ?_) | (refine wpList_loadg 31 (.tmp 9) (by rfl) (by rfl) (.pointer (some ⟨g9, 0, none⟩)) (by rfl) (.agg (cellsOf V).toArray) (HL9.out _ HS.out) ?_) | (refine wpList_neqg 31 _ (.tmp 39) (.tmp 40) (by rfl) (by rfl) (cellsOf X).toArray (cellsOf U).toArray (by rfl) (by rfl) HGT.out _ (HQ1.out _) ?_) | (refine wpList_neqg 31 _ (.tmp 43) (.tmp 44) (by rfl) (by rfl) (cellsOf Y).toArray (cellsOf V).toArray (by rfl) (by rfl) HGT.out _ (HQ2.out _) ?_))
            (try dsimp only [Act.put, List.setIfInBounds_toArray, List.set_cons_zero, List.set_cons_succ])
            have HS := Lib.hid HS.out.drew
            refine anyH_begin (S := SD w B6 [(g8, U), (g9, V), (g6, X), (g7, Y)]) (by kernel_rfl) ?_
            refine anyH_pureG 0 (d := 54) (op := .move (.tmp 0)) (gd := none) (.slice aa n ac) (by rfl) (fun o ho => wanted_plain ho _) (by kernel_rfl) (by kernel_rfl) (by kernel_rfl) (fun _ _ _ h => h) (fun o ho W hW => by unfold execOp; simp only [ho]; go_simp) HS.out ?_
            simp only [Act.put, List.setIfInBounds_toArray, List.set_cons_zero, List.set_cons_succ]
            refine anyH_pureG 1 (d := 55) (op := .move (.tmp 5)) (gd := none) (.int .i64 (k : Int)) (by rfl) (fun o ho => wanted_plain ho _) (by kernel_rfl) (by kernel_rfl) (by kernel_rfl) (fun _ _ _ h => h) (fun o ho W hW => by unfold execOp; simp only [ho]; go_simp) HS.out ?_
            simp only [Act.put, List.setIfInBounds_toArray, List.set_cons_zero, List.set_cons_succ]
            refine anyH_pureG 2 (d := 56) (op := .slice 22 (.tmp 54) none (some (.tmp 55)) none) (gd := none) (.slice aa k ac) (by rfl) (fun o ho => wanted_plain ho _) (by kernel_rfl) (by kernel_rfl) (by kernel_rfl) (fun _ _ _ h => h) (fun o ho W hW => exec_dhead dtR (x := .tmp 54) (y := .tmp 55) aa n ac k (by omega) _ (by rfl) (by rfl) o ho W) HS.out ?_
            simp only [Act.put, List.setIfInBounds_toArray, List.set_cons_zero, List.set_cons_succ]
            refine anyH_pureG 3 (d := 57) (op := .move (.tmp 1)) (gd := none) (.slice ba n bc) (by rfl) (fun o ho => wanted_plain ho _) (by kernel_rfl) (by kernel_rfl) (by kernel_rfl) (fun _ _ _ h => h) (fun o ho W hW => by unfold execOp; simp only [ho]; go_simp) HS.out ?_
            simp only [Act.put, List.setIfInBounds_toArray, List.set_cons_zero, List.set_cons_succ]
            refine anyH_pureG 4 (d := 58) (op := .move (.tmp 5)) (gd := none) (.int .i64 (k : Int)) (by rfl) (fun o ho => wanted_plain ho _) (by kernel_rfl) (by kernel_rfl) (by kernel_rfl) (fun _ _ _ h => h) (fun o ho W hW => by unfold execOp; simp only [ho]; go_simp) HS.out ?_
            simp only [Act.put, List.setIfInBounds_toArray, List.set_cons_zero, List.set_cons_succ]
            refine anyH_pureG 5 (d := 59) (op := .slice 22 (.tmp 57) none (some (.tmp 58)) none) (gd := none) (.slice ba k bc) (by rfl) (fun o ho => wanted_plain ho _) (by kernel_rfl) (by kernel_rfl) (by kernel_rfl) (fun _ _ _ h => h) (fun o ho W hW => exec_dhead dtR (x := .tmp 57) (y := .tmp 58) ba n bc k (by omega) _ (by rfl) (by rfl) o ho W) HS.out ?_
            simp only [Act.put, List.setIfInBounds_toArray, List.set_cons_zero, List.set_cons_succ]
            refine anyH_callG 6 (d := some 60) (f := 13) (xs := #[(.tmp 56), (.tmp 59)]) (ts := #[22, 22]) (gd := none) (vs := #[.slice aa k ac, .slice ba k bc]) (by kernel_rfl) (by rfl) (fun o ho => wanted_plain ho _) (by go_simp) (by go_simp) (HSAME.out _ HS.out.1) ?_
            rintro e98 w98 ⟨rfl, hb98⟩
            refine ⟨_, rfl, HS.out.step hb98, fun hS98 => ?_⟩
            have HS := Lib.hid hS98
            clear hS98 hb98
            simp only [Act.put, List.setIfInBounds_toArray, List.set_cons_zero, List.set_cons_succ]
            refine anyH_pureG 7 (d := 61) (op := .unOp .not 4 (.tmp 60)) (gd := none) (.bool true) (by rfl) (fun o ho => wanted_plain ho _) (by kernel_rfl) (by kernel_rfl) (by kernel_rfl) (fun _ _ _ h => h) (fun o ho W hW => by unfold execOp; simp only [ho]; go_simp) HS.out ?_
            simp only [Act.put, List.setIfInBounds_toArray, List.set_cons_zero, List.set_cons_succ]
            refine wpAnyH_done (by kernel_rfl) ?_ _
            go_wp2_with (first | (refine wpList_loadg 31 (.tmp 6) (by rfl) (by rfl) (.pointer (some ⟨g6, 0, none⟩)) (by rfl) (.agg (cellsOf X).toArray) (HL6.out _ HS.out) ?_) | (refine wpList_loadg 31 (.tmp 7) (by rfl) (by rfl) (.pointer (some ⟨g7, 0, none⟩)) (by rfl) (.agg (cellsOf Y).toArray) (HL7.out _ HS.out) ?_) | (refine wpList_loadg 31 (.tmp 8) (by rfl) (by rfl) (.pointer (some ⟨g8, 0, none⟩)) (by rfl) (.agg (cellsOf U).toArray) (HL8.out _ HS.out) ?_) | (refine wpList_loadg 31 (.tmp 9) (by rfl) (by rfl) (.pointer (some ⟨g9, 0, none⟩)) (by rfl) (.agg (cellsOf V).toArray) (HL9.out _ HS.out) ?_) | (refine wpList_neqg 31 _ (.tmp 39) (.tmp 40) (by rfl) (by rfl) (cellsOf X).toArray (cellsOf U).toArray (by rfl) (by rfl) HGT.out _ (HQ1.out _) ?_) | (refine wpList_neqg 31 _ (.tmp 43) (.tmp 44) (by rfl) (by rfl) (cellsOf Y).toArray (cellsOf V).toArray (by rfl) (by rfl) HGT.out _ (HQ2.out _) ?_))
            (try dsimp only [Act.put, List.setIfInBounds_toArray, List.set_cons_zero, List.set_cons_succ])
            have HS := Lib.hid HS.out.drew
            refine anyH_begin (S := SD w B6 [(g8, U), (g9, V), (g6, X), (g7, Y)]) (by kernel_rfl) ?_
            refine anyH_pureG 0 (d := 62) (op := .move (.tmp 0)) (gd := none) (.slice aa n ac) (by rfl) (fun o ho => wanted_plain ho _) (by kernel_rfl) (by kernel_rfl) (by kernel_rfl) (fun _ _ _ h => h) (fun o ho W hW => by unfold execOp; simp only [ho]; go_simp) HS.out ?_
            simp only [Act.put, List.setIfInBounds_toArray, List.set_cons_zero, List.set_cons_succ]
            refine anyH_pureG 1 (d := 63) (op := .move (.tmp 5)) (gd := none) (.int .i64 (k : Int)) (by rfl) (fun o ho => wanted_plain ho _) (by kernel_rfl) (by kernel_rfl) (by kernel_rfl) (fun _ _ _ h => h) (fun o ho W hW => by unfold execOp; simp only [ho]; go_simp) HS.out ?_
            simp only [Act.put, List.setIfInBounds_toArray, List.set_cons_zero, List.set_cons_succ]
            refine anyH_pureG 2 (d := 64) (op := .slice 22 (.tmp 62) none (some (.tmp 63)) none) (gd := none) (.slice aa k ac) (by rfl) (fun o ho => wanted_plain ho _) (by kernel_rfl) (by kernel_rfl) (by kernel_rfl) (fun _ _ _ h => h) (fun o ho W hW => exec_dhead dtR (x := .tmp 62) (y := .tmp 63) aa n ac k (by omega) _ (by rfl) (by rfl) o ho W) HS.out ?_
            simp only [Act.put, List.setIfInBounds_toArray, List.set_cons_zero, List.set_cons_succ]
            refine anyH_pureG 3 (d := 65) (op := .move (.tmp 1)) (gd := none) (.slice ba n bc) (by rfl) (fun o ho => wanted_plain ho _) (by kernel_rfl) (by kernel_rfl) (by kernel_rfl) (fun _ _ _ h => h) (fun o ho W hW => by unfold execOp; simp only [ho]; go_simp) HS.out ?_
            simp only [Act.put, List.setIfInBounds_toArray, List.set_cons_zero, List.set_cons_succ]
            refine anyH_pureG 4 (d := 66) (op := .move (.tmp 5)) (gd := none) (.int .i64 (k : Int)) (by rfl) (fun o ho => wanted_plain ho _) (by kernel_rfl) (by kernel_rfl) (by kernel_rfl) (fun _ _ _ h => h) (fun o ho W hW => by unfold execOp; simp only [ho]; go_simp) HS.out ?_
            simp only [Act.put, List.setIfInBounds_toArray, List.set_cons_zero, List.set_cons_succ]
            refine anyH_pureG 5 (d := 67) (op := .slice 22 (.tmp 65) none (some (.tmp 66)) none) (gd := none) (.slice ba k bc) (by rfl) (fun o ho => wanted_plain ho _) (by kernel_rfl) (by kernel_rfl) (by kernel_rfl) (fun _ _ _ h => h) (fun o ho W hW => exec_dhead dtR (x := .tmp 65) (y := .tmp 66) ba n bc k (by omega) _ (by rfl) (by rfl) o ho W) HS.out ?_
            simp only [Act.put, List.setIfInBounds_toArray, List.set_cons_zero, List.set_cons_succ]
            refine anyH_callG 6 (d := some 68) (f := 35) (xs := #[(.tmp 64), (.tmp 67)]) (ts := #[22, 22]) (gd := none) (vs := #[.slice aa k ac, .slice ba k bc]) (by kernel_rfl) (by rfl) (fun o ho => wanted_plain ho _) (by go_simp) (by go_simp) (HL.out _ HS.out.1) ?_
            rintro e99 w99 ⟨rfl, hb99⟩
            refine ⟨_, rfl, HS.out.step hb99, fun hS99 => ?_⟩
            have HS := Lib.hid hS99
            clear hS99 hb99
            simp only [Act.put, List.setIfInBounds_toArray, List.set_cons_zero, List.set_cons_succ]
            refine anyH_pureG 7 (d := 4) (op := .assign (.tmp 68)) (gd := none) (.bool true) (by rfl) (fun o ho => wanted_plain ho _) (by kernel_rfl) (by kernel_rfl) (by kernel_rfl) (fun _ _ _ h => h) (fun o ho W hW => by unfold execOp; simp only [ho]; go_simp) HS.out ?_
            simp only [Act.put, List.setIfInBounds_toArray, List.set_cons_zero, List.set_cons_succ]
            refine wpAnyH_done (by kernel_rfl) ?_ _
            go_wp2
            go_ret
            exact ⟨rfl, HS.out.1⟩
        · rw [decide_eq_false e2] at HQ2
          have HNEQ := Lib.hid (HNEQ.out (.inr e2))
          clear e1 e2 HL HM HSAME
          go_wp2_with (first | (refine wpList_loadg 31 (.tmp 6) (by rfl) (by rfl) (.pointer (some ⟨g6, 0, none⟩)) (by rfl) (.agg (cellsOf X).toArray) (HL6.out _ HS.out) ?_) | (refine wpList_loadg 31 (.tmp 7) (by rfl) (by rfl) (.pointer (some ⟨g7, 0, none⟩)) (by rfl) (.agg (cellsOf Y).toArray) (HL7.out _ HS.out) ?_) | (refine wpList_loadg 31 (.tmp 8) (by rfl) (by rfl) (.pointer (some ⟨g8, 0, none⟩)) (by rfl) (.agg (cellsOf U).toArray) (HL8.out _ HS.out) ?_) | (refine wpList_loadg 31 (.tmp 9) (by rfl) (by rfl) (.pointer (some ⟨g9, 0, none⟩)) (by rfl) (.agg (cellsOf V).toArray) (HL9.out _ HS.out) ?_) | (refine wpList_neqg 31 _ (.tmp 39) (.tmp 40) (by rfl) (by rfl) (cellsOf X).toArray (cellsOf U).toArray (by rfl) (by rfl) HGT.out _ (HQ1.out _) ?_) | (refine wpList_neqg 31 _ (.tmp 43) (.tmp 44) (by rfl) (by rfl) (cellsOf Y).toArray (cellsOf V).toArray (by rfl) (by rfl) HGT.out _ (HQ2.out _) ?_))
          (try dsimp only [Act.put, List.setIfInBounds_toArray, List.set_cons_zero, List.set_cons_succ])
          have HS := Lib.hid HS.out.drew
          refine anyH_begin (S := SD w B6 [(g8, U), (g9, V), (g6, X), (g7, Y)]) (by kernel_rfl) ?_
          refine anyH_loadG 0 (d := 47) (ty := 31) (x := (.tmp 6)) (gd := none) (p := .pointer (some ⟨g6, 0, none⟩)) (.agg (cellsOf X).toArray) (by rfl) (fun o ho => wanted_plain ho _) (by kernel_rfl) (by kernel_rfl) (by kernel_rfl) (fun _ _ _ h => h) (by rfl) HL6.out HS.out ?_
          simp only [Act.put, List.setIfInBounds_toArray, List.set_cons_zero, List.set_cons_succ]
          refine anyH_loadG 1 (d := 48) (ty := 31) (x := (.tmp 7)) (gd := none) (p := .pointer (some ⟨g7, 0, none⟩)) (.agg (cellsOf Y).toArray) (by rfl) (fun o ho => wanted_plain ho _) (by kernel_rfl) (by kernel_rfl) (by kernel_rfl) (fun _ _ _ h => h) (by rfl) HL7.out HS.out ?_
          simp only [Act.put, List.setIfInBounds_toArray, List.set_cons_zero, List.set_cons_succ]
          refine anyH_loadG 3 (d := 50) (ty := 31) (x := (.tmp 8)) (gd := none) (p := .pointer (some ⟨g8, 0, none⟩)) (.agg (cellsOf U).toArray) (by rfl) (fun o ho => wanted_plain ho _) (by kernel_rfl) (by kernel_rfl) (by kernel_rfl) (fun _ _ _ h => h) (by rfl) HL8.out HS.out ?_
          simp only [Act.put, List.setIfInBounds_toArray, List.set_cons_zero, List.set_cons_succ]
          refine anyH_loadG 4 (d := 51) (ty := 31) (x := (.tmp 9)) (gd := none) (p := .pointer (some ⟨g9, 0, none⟩)) (.agg (cellsOf V).toArray) (by rfl) (fun o ho => wanted_plain ho _) (by kernel_rfl) (by kernel_rfl) (by kernel_rfl) (fun _ _ _ h => h) (by rfl) HL9.out HS.out ?_
          simp only [Act.put, List.setIfInBounds_toArray, List.set_cons_zero, List.set_cons_succ]
          refine anyH_callG 2 (d := some 49) (f := 32) (xs := #[(.tmp 47), (.tmp 48)]) (ts := #[31, 31]) (gd := none) (vs := #[.agg (cellsOf X).toArray, .agg (cellsOf Y).toArray]) (by kernel_rfl) (by rfl) (fun o ho => wanted_plain ho _) (by go_simp) (by go_simp) (pairR_c X Y _ HXD.out HYD.out) ?_
          rintro e82 w82 ⟨p1, q1, rfl, hrd82, hb82⟩
          refine ⟨_, rfl, HS.out.step hb82, fun hS82 => ?_⟩
          have HS := Lib.hid hS82
          have HP1 := Lib.hid hrd82
          clear hS82 hb82 hrd82
          simp only [Act.put, List.setIfInBounds_toArray, List.set_cons_zero, List.set_cons_succ]
          refine anyH_callG 5 (d := some 52) (f := 32) (xs := #[(.tmp 50), (.tmp 51)]) (ts := #[31, 31]) (gd := none) (vs := #[.agg (cellsOf U).toArray, .agg (cellsOf V).toArray]) (by kernel_rfl) (by rfl) (fun o ho => wanted_plain ho _) (by go_simp) (by go_simp) (pairR_c U V _ HUD.out HVD.out) ?_
          rintro e84 w84 ⟨p2, q2, rfl, hrd84, hb84⟩
          refine ⟨_, rfl, HS.out.step hb84, fun hS84 => ?_⟩
          have HS := Lib.hid hS84
          have HP2 := Lib.hid hrd84
          have HP1 := Lib.hid (HP1.out.below hb84)
          clear hS84 hb84 hrd84
          simp only [Act.put, List.setIfInBounds_toArray, List.set_cons_zero, List.set_cons_succ]
          refine anyH_callG 6 (d := some 53) (f := 37) (xs := #[(.tmp 49), (.tmp 52)]) (ts := #[64, 64]) (gd := none) (vs := #[.slice p1 65 q1, .slice p2 65 q2]) (by kernel_rfl) (by rfl) (fun o ho => wanted_plain ho _) (by go_simp) (by go_simp) (apart_c p1 p2 65 q1 q2 _ _ _ HP1.out HP2.out HR.out HNEQ.out (by omega)) ?_
          rintro e85 w85 ⟨rfl, hb85⟩
          refine ⟨_, rfl, HS.out.step hb85, fun hS85 => ?_⟩
          have HS := Lib.hid hS85
          clear hS85 hb85
          simp only [Act.put, List.setIfInBounds_toArray, List.set_cons_zero, List.set_cons_succ]
          refine anyH_pureG 7 (d := 4) (op := .assign (.tmp 53)) (gd := none) (.bool true) (by rfl) (fun o ho => wanted_plain ho _) (by kernel_rfl) (by kernel_rfl) (by kernel_rfl) (fun _ _ _ h => h) (fun o ho W hW => by unfold execOp; simp only [ho]; go_simp) HS.out ?_
          simp only [Act.put, List.setIfInBounds_toArray, List.set_cons_zero, List.set_cons_succ]
          refine wpAnyH_done (by kernel_rfl) ?_ _
          go_wp2
          go_ret
          exact ⟨rfl, HS.out.1⟩
      · rw [decide_eq_false e1] at HQ1
        have HNEQ := Lib.hid (HNEQ.out (.inl e1))
        clear e1 HL HM HSAME
        go_wp2_with (first | (refine wpList_loadg 31 (.tmp 6) (by rfl) (by rfl) (.pointer (some ⟨g6, 0, none⟩)) (by rfl) (.agg (cellsOf X).toArray) (HL6.out _ HS.out) ?_) | (refine wpList_loadg 31 (.tmp 7) (by rfl) (by rfl) (.pointer (some ⟨g7, 0, none⟩)) (by rfl) (.agg (cellsOf Y).toArray) (HL7.out _ HS.out) ?_) | (refine wpList_loadg 31 (.tmp 8) (by rfl) (by rfl) (.pointer (some ⟨g8, 0, none⟩)) (by rfl) (.agg (cellsOf U).toArray) (HL8.out _ HS.out) ?_) | (refine wpList_loadg 31 (.tmp 9) (by rfl) (by rfl) (.pointer (some ⟨g9, 0, none⟩)) (by rfl) (.agg (cellsOf V).toArray) (HL9.out _ HS.out) ?_) | (refine wpList_neqg 31 _ (.tmp 39) (.tmp 40) (by rfl) (by rfl) (cellsOf X).toArray (cellsOf U).toArray (by rfl) (by rfl) HGT.out _ (HQ1.out _) ?_) | (refine wpList_neqg 31 _ (.tmp 43) (.tmp 44) (by rfl) (by rfl) (cellsOf Y).toArray (cellsOf V).toArray (by rfl) (by rfl) HGT.out _ (HQ2.out _) ?_))
        (try dsimp only [Act.put, List.setIfInBounds_toArray, List.set_cons_zero, List.set_cons_succ])
        have HS := Lib.hid HS.out.drew
        refine anyH_begin (S := SD w B6 [(g8, U), (g9, V), (g6, X), (g7, Y)]) (by kernel_rfl) ?_
        refine anyH_loadG 0 (d := 47) (ty := 31) (x := (.tmp 6)) (gd := none) (p := .pointer (some ⟨g6, 0, none⟩)) (.agg (cellsOf X).toArray) (by rfl) (fun o ho => wanted_plain ho _) (by kernel_rfl) (by kernel_rfl) (by kernel_rfl) (fun _ _ _ h => h) (by rfl) HL6.out HS.out ?_
        simp only [Act.put, List.setIfInBounds_toArray, List.set_cons_zero, List.set_cons_succ]
        refine anyH_loadG 1 (d := 48) (ty := 31) (x := (.tmp 7)) (gd := none) (p := .pointer (some ⟨g7, 0, none⟩)) (.agg (cellsOf Y).toArray) (by rfl) (fun o ho => wanted_plain ho _) (by kernel_rfl) (by kernel_rfl) (by kernel_rfl) (fun _ _ _ h => h) (by rfl) HL7.out HS.out ?_
        simp only [Act.put, List.setIfInBounds_toArray, List.set_cons_zero, List.set_cons_succ]
        refine anyH_loadG 3 (d := 50) (ty := 31) (x := (.tmp 8)) (gd := none) (p := .pointer (some ⟨g8, 0, none⟩)) (.agg (cellsOf U).toArray) (by rfl) (fun o ho => wanted_plain ho _) (by kernel_rfl) (by kernel_rfl) (by kernel_rfl) (fun _ _ _ h => h) (by rfl) HL8.out HS.out ?_
        simp only [Act.put, List.setIfInBounds_toArray, List.set_cons_zero, List.set_cons_succ]
        refine anyH_loadG 4 (d := 51) (ty := 31) (x := (.tmp 9)) (gd := none) (p := .pointer (some ⟨g9, 0, none⟩)) (.agg (cellsOf V).toArray) (by rfl) (fun o ho => wanted_plain ho _) (by kernel_rfl) (by kernel_rfl) (by kernel_rfl) (fun _ _ _ h => h) (by rfl) HL9.out HS.out ?_
        simp only [Act.put, List.setIfInBounds_toArray, List.set_cons_zero, List.set_cons_succ]
        refine anyH_callG 2 (d := some 49) (f := 32) (xs := #[(.tmp 47), (.tmp 48)]) (ts := #[31, 31]) (gd := none) (vs := #[.agg (cellsOf X).toArray, .agg (cellsOf Y).toArray]) (by kernel_rfl) (by rfl) (fun o ho => wanted_plain ho _) (by go_simp) (by go_simp) (pairR_c X Y _ HXD.out HYD.out) ?_
        rintro e82 w82 ⟨p1, q1, rfl, hrd82, hb82⟩
        refine ⟨_, rfl, HS.out.step hb82, fun hS82 => ?_⟩
        have HS := Lib.hid hS82
        have HP1 := Lib.hid hrd82
        clear hS82 hb82 hrd82
        simp only [Act.put, List.setIfInBounds_toArray, List.set_cons_zero, List.set_cons_succ]
        refine anyH_callG 5 (d := some 52) (f := 32) (xs := #[(.tmp 50), (.tmp 51)]) (ts := #[31, 31]) (gd := none) (vs := #[.agg (cellsOf U).toArray, .agg (cellsOf V).toArray]) (by kernel_rfl) (by rfl) (fun o ho => wanted_plain ho _) (by go_simp) (by go_simp) (pairR_c U V _ HUD.out HVD.out) ?_
        rintro e84 w84 ⟨p2, q2, rfl, hrd84, hb84⟩
        refine ⟨_, rfl, HS.out.step hb84, fun hS84 => ?_⟩
        have HS := Lib.hid hS84
        have HP2 := Lib.hid hrd84
        have HP1 := Lib.hid (HP1.out.below hb84)
        clear hS84 hb84 hrd84
        simp only [Act.put, List.setIfInBounds_toArray, List.set_cons_zero, List.set_cons_succ]
        refine anyH_callG 6 (d := some 53) (f := 37) (xs := #[(.tmp 49), (.tmp 52)]) (ts := #[64, 64]) (gd := none) (vs := #[.slice p1 65 q1, .slice p2 65 q2]) (by kernel_rfl) (by rfl) (fun o ho => wanted_plain ho _) (by go_simp) (by go_simp) (apart_c p1 p2 65 q1 q2 _ _ _ HP1.out HP2.out HR.out HNEQ.out (by omega)) ?_
        rintro e85 w85 ⟨rfl, hb85⟩
        refine ⟨_, rfl, HS.out.step hb85, fun hS85 => ?_⟩
        have HS := Lib.hid hS85
        clear hS85 hb85
        simp only [Act.put, List.setIfInBounds_toArray, List.set_cons_zero, List.set_cons_succ]
        refine anyH_pureG 7 (d := 4) (op := .assign (.tmp 53)) (gd := none) (.bool true) (by rfl) (fun o ho => wanted_plain ho _) (by kernel_rfl) (by kernel_rfl) (by kernel_rfl) (fun _ _ _ h => h) (fun o ho W hW => by unfold execOp; simp only [ho]; go_simp) HS.out ?_
        simp only [Act.put, List.setIfInBounds_toArray, List.set_cons_zero, List.set_cons_succ]
        refine wpAnyH_done (by kernel_rfl) ?_ _
        go_wp2
        go_ret
        exact ⟨rfl, HS.out.1⟩
theorem differ_c : ∀ (n : Nat), n ≤ 4398046511104 → DIH (n + 1) := by
  intro n
  induction n using Nat.strongRecOn with
  | ind n ih =>
    intro hn q hq a b aa ac ba bc w ha hac ham hb hbc hbm hr hne
    by_cases hqn : q < n
    · exact ih q hqn (by omega) q (by omega) a b aa ac ba bc w ha hac ham hb hbc hbm hr hne
    obtain rfl : q = n := by omega
    by_cases h1 : q < 2
    · exfalso
      have ha1 := ha.1
      have hb1 := hb.1
      match a, b, ha1, hb1 with
      | [], [], _, _ => exact hne rfl
      | [x], [y], _, _ => rw [rootS_one, rootS_one] at hr; exact hne (by rw [hr])
      | [], _ :: _, ha, hb => simp at ha hb; omega
      | _ :: _, [], ha, hb => simp at ha hb; omega
      | _ :: _ :: _, _, ha, _ => simp at ha; omega
      | _, _ :: _ :: _, _, hb => simp at hb; omega
    · have ih' : DIH q := fun p hp => ih p hp (by omega) p (by omega)
      exact dif_g q _ ih' a b aa ac ba bc w (by omega) hn rfl ha hac ham hb hbc hbm hr hne
end Go.Proofs.YtoknjhpdbigbhaaDoor
