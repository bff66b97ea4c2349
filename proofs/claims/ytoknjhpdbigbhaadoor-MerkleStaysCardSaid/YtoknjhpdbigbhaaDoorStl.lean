/-
  The walk over the document's Strays, where two roots of one proof stand for lists that part.
-/
import Derived.Test.YtoknjhpdbigbhaaDoorDif
import Derived.Test.YtoknjhpdbigbhaaDoorRex
namespace Go.Proofs.YtoknjhpdbigbhaaDoor
open Go.RowKit
set_option linter.unusedVariables false
/-- sums and what a proof told, laid since w, all below B0 -/
def SB (w : World) (B0 : Nat) (rows : List (Nat × List Nat)) (g : Nat) (C : Array Value) (W : World) : Prop := Below w.heap.size w W ∧ (∀ p ∈ rows, p.1 < B0 ∧ Brow W p.1 31 p.2) ∧ B0 ≤ W.heap.size ∧ w.heap.size ≤ B0 ∧ g < B0 ∧ BR W g C
theorem SB.step {w W W' : World} {B0 g : Nat} {C : Array Value} {rows : List (Nat × List Nat)} (h : SB w B0 rows g C W) (hb : Below W.heap.size W W') : SB w B0 rows g C W' :=
  ⟨h.1.trans (hb.mono h.1.size), fun p hp => ⟨(h.2.1 p hp).1, (h.2.1 p hp).2.below hb (h.2.1 p hp).2.lt⟩, Nat.le_trans h.2.2.1 hb.size, h.2.2.2.1, h.2.2.2.2.1, h.2.2.2.2.2.below hb h.2.2.2.2.2.lt⟩
theorem SB.drew {w W : World} {B0 g : Nat} {C : Array Value} {rows : List (Nat × List Nat)} (h : SB w B0 rows g C W) : SB w B0 rows g C W.drew := ⟨h.1.drew, fun p hp => ⟨(h.2.1 p hp).1, (h.2.1 p hp).2.drew⟩, h.2.2.1, h.2.2.2.1, h.2.2.2.2.1, h.2.2.2.2.2.drew⟩
theorem SB.only {w W W' : World} {B0 g k : Nat} {C : Array Value} {rows : List (Nat × List Nat)} (h : SB w B0 rows g C W) (ho : Only k W W') (hg : B0 ≤ k) : SB w B0 rows g C W' :=
  have hb := ho.below (Nat.le_trans h.2.2.2.1 hg) h.1.size
  ⟨h.1.trans hb, fun p hp => ⟨(h.2.1 p hp).1, (h.2.1 p hp).2.only ho (by have := (h.2.1 p hp).1; omega)⟩, Nat.le_trans h.2.2.1 hb.size, h.2.2.2.1, h.2.2.2.2.1, h.2.2.2.2.2.only ho (by have := h.2.2.2.2.1; omega)⟩
theorem SB.more {w W : World} {B0 g g1 g2 : Nat} {C : Array Value} {x y : List Nat} {rows : List (Nat × List Nat)} (h : SB w B0 rows g C W) (h1 : Brow W g1 31 x) (h2 : Brow W g2 31 y) : SB w W.heap.size ((g1, x) :: (g2, y) :: rows) g C W := by
  refine ⟨h.1, fun p hp => ?_, Nat.le_refl _, Nat.le_trans h.2.2.2.1 h.2.2.1, Nat.lt_of_lt_of_le h.2.2.2.2.1 h.2.2.1, h.2.2.2.2.2⟩
  rcases List.mem_cons.1 hp with rfl | hp
  · exact ⟨h1.lt, h1⟩
  rcases List.mem_cons.1 hp with rfl | hp
  · exact ⟨h2.lt, h2⟩
  · exact ⟨Nat.lt_of_lt_of_le (h.2.1 p hp).1 h.2.2.1, (h.2.1 p hp).2⟩
theorem SB.split {w W : World} {B0 B5 g g1 g2 g3 : Nat} {C : Array Value} {x y z : List Nat} (h : SB w B0 [(g1, x), (g2, y), (g3, z)] g C W) (hb : B5 ≤ B0) (hw : w.heap.size ≤ B5) (hg : g < B5) (h3 : g3 < B5) : SB w B5 [(g3, z)] g C W ∧ Brow W g1 31 x ∧ Brow W g2 31 y := by
  refine ⟨⟨h.1, fun p hp => ?_, Nat.le_trans hb h.2.2.1, hw, hg, h.2.2.2.2.2⟩, (h.2.1 (g1, x) (by simp)).2, (h.2.1 (g2, y) (by simp)).2⟩
  rw [List.mem_singleton] at hp
  subst hp
  exact ⟨h3, (h.2.1 (g3, z) (by simp)).2⟩
theorem SB.lay {w W : World} {g : Nat} {s : List Nat} {D : Array Value} (h : Brow W g 31 s) (hb : Below w.heap.size w W) (O : Obj) (hO : O = .cells noC 70 (0, 0)) : SB w (W.heap.size + 1) [(g, s)] W.heap.size D ((W.alloc O).setRow W.heap.size D) := by
  subst hO
  have hB : Below W.heap.size W ((W.alloc (.cells noC 70 (0, 0))).setRow W.heap.size D) := ((Below.refl _ _).alloc (Nat.le_refl _) _).setRow (Nat.le_refl _) _
  have hR : BR ((W.alloc (.cells noC 70 (0, 0))).setRow W.heap.size D) W.heap.size D := BR.setRow (C := noC) (heap_new _ _)
  refine ⟨hb.trans (hB.mono hb.size), fun p hp => ?_, hR.lt, by have := hb.size; omega, by omega, hR⟩
  rw [List.mem_singleton] at hp
  subst hp
  exact ⟨by have := h.lt; omega, h.below hB h.lt⟩
def SA (w : World) (g : Nat) (s : List Nat) (W : World) : Prop := Brow W g 31 s ∧ Below w.heap.size w W
theorem built_dzR : Tryd.prog.built 31 [] = some (cellsOf zs32).toArray := by kernel_rfl
theorem both_old {old p : List Nat} {m n : Nat} {way : Ds} : bothS old m n false way = bothS p m n false way := by
  unfold bothS Mk.both
  have := grow_old n old p m way
  unfold growS at this
  rw [this]
def SIH (n : Nat) : Prop := ∀ B q, q < n → ∀ (m : Nat) (a b way : Ds) (whole : Bool) (aa : Option Addr) (ac : Nat) (ba : Option Addr) (bc : Nat) (wa : Option Addr) (wl wcp : Nat) (w : World), 1 ≤ m → m ≤ q → DR w aa m a → m ≤ ac → ac ≤ 9223372036854775807 → DR w ba q b → q ≤ bc → bc ≤ 9223372036854775807 → DR w wa wl way → wl ≤ wcp → wcp ≤ 9223372036854775807 → (∀ b, blkOf wa = some b → b < B) → B ≤ w.heap.size →
  bothS (rootS a) m q whole way = some (rootS a, rootS b) → a ≠ b.take m → Calls Tryd.prog 23 #[.slice aa m ac, .slice ba q bc, .bool whole, .slice wa wl wcp] w (RetTrue w)
set_option maxRecDepth 100000 in
set_option maxHeartbeats 16000000 in
theorem str_l (B n k m L : Nat) (ih : SIH n) (a b way : Ds) (whole : Bool) (aa : Option Addr) (ac : Nat) (ba : Option Addr) (bc : Nat) (wa : Option Addr) (wcp : Nat) (w : World) (h2 : 2 ≤ n) (hn : n ≤ 4398046511104) (hk : Mk.half n = k) (h1 : 1 ≤ m) (hmn : m < n) (hmk : m ≤ k) (ha : DR w aa m a) (hac : m ≤ ac) (ham : ac ≤ 9223372036854775807) (hb : DR w ba n b) (hbc : n ≤ bc) (hbm : bc ≤ 9223372036854775807)
    (hw : DR w wa (L + 1) way) (hwc : L + 1 ≤ wcp) (hwm : wcp ≤ 9223372036854775807) (hab : ∀ b, blkOf wa = some b → b < B) (hB : B ≤ w.heap.size) (htop : bothS (rootS a) m n whole way = some (rootS a, rootS b)) (hne : a ≠ b.take m) :
    Calls Tryd.prog 23 #[.slice aa m ac, .slice ba n bc, .bool whole, .slice wa (L + 1) wcp] w (RetTrue w) := by
  have hk0 : 0 < k := by rw [← hk]; exact Mk.half_pos n
  have hkn : k < n := by rw [← hk]; exact Mk.half_lt n h2
  have h2k : n ≤ 2 * k := by rw [← hk]; exact Mk.half_two n h2
  obtain ⟨wb, wo, rfl, _, _⟩ := hw.at L (by omega)
  obtain ⟨s, hs⟩ : ∃ s, s = way.getD L [] := ⟨_, rfl⟩
  have HSD := Lib.hid (show D32 s from by rw [hs]; exact D32.get hw.2.1 L (by rw [hw.1]; omega))
  have hlow : ∀ d ∈ way.take L, D32 d := d32_take hw.2.1 L
  have hrb : rootS b = nodeS (rootS (b.take k)) (rootS (b.drop k)) := by rw [rootS_more b (by rw [hb.1]; omega), hb.1, hk]
  rw [way_snoc hw.1, ← hs] at htop
  have HH := Lib.hid (fun W => rhalf_c n W h2 (by omega))
  rw [hk] at HH
  obtain ⟨U, hU⟩ : ∃ U, U = rootS (b.take k) := ⟨_, rfl⟩
  obtain ⟨V, hV⟩ : ∃ V, V = rootS (b.drop k) := ⟨_, rfl⟩
  have HUD := Lib.hid (show D32 U from by rw [hU]; exact d32_root _ (d32_take hb.2.1 _))
  have HVD := Lib.hid (show D32 V from by rw [hV]; exact d32_root _ (d32_drop hb.2.1 _))
  have HU := Lib.hid (show ∀ W, Below w.heap.size w W → Calls Tryd.prog 12 #[.slice ba k bc] W (DigRet U W) from fun W hW => by rw [hU]; exact rroot_c k _ _ _ W ((hb.below hW).take k (by omega)) (by omega) (by omega))
  have HV := Lib.hid (show ∀ W, Below w.heap.size w W → Calls Tryd.prog 12 #[.slice (sld ba bc k) (n - k) (bc - k)] W (DigRet V W) from fun W hW => by rw [hV]; exact rroot_c (n - k) _ _ _ W ((hb.below hW).drop bc k (by omega) hbc) (by omega) (by omega))
  have HGT := Lib.hid (show Tryd.prog.eqGuardType Tryd.prog.depth 31 = false by kernel_rfl)
  have HIS := Lib.hid (info32 dtR HSD.out)
  have HZS := Lib.hid (zsize HSD.out)
  obtain ⟨XX, hX⟩ : ∃ X, X = rootS a := ⟨_, rfl⟩
  obtain ⟨Y, hq, he⟩ : ∃ y, bothS XX m k whole (way.take L) = some (XX, y) ∧ nodeS y s = rootS b := by
    rw [show bothS (rootS a) m n whole (way.take L ++ [s]) = _ from Mk.both_left _ _ _ _ _ _ _ h1 hmn (by rw [hk]; exact hmk), hk] at htop
    obtain ⟨⟨x, y⟩, h, e⟩ := Option.map_eq_some_iff.1 htop
    simp only [Prod.mk.injEq] at e
    obtain ⟨e1, e2⟩ := e
    refine ⟨y, ?_, e2⟩
    rw [hX]
    rw [e1] at h
    exact h
  have HXD := Lib.hid (show D32 XX from by rw [hX]; exact d32_root _ ha.2.1)
  have HYD := Lib.hid ((d32_both k XX m whole (way.take L) XX Y h1 hmk HXD.out hlow hq).2)
  rw [hrb, ← hU, ← hV] at he
  have HR := Lib.hid (show Sha.sum (pairL Y s) = Sha.sum (pairL U V) from he)
  have HNEQ := Lib.hid (show Y ≠ U ∨ s ≠ V → pairL Y s ≠ pairL U V from fun h he => by
    obtain ⟨e1, e2⟩ := pairL_inj he (by rw [HYD.out.1, HUD.out.1])
    exact h.elim (· e1) (· e2))
  have HRT := Lib.hid (show ∀ W, Below w.heap.size w W → Calls Tryd.prog 12 #[.slice aa m ac] W (DigRet XX W) from fun W hW => by rw [hX]; exact rroot_c m _ _ _ W (ha.below hW) (by omega) (by omega))
  have HG := Lib.hid (show ∀ W, Below w.heap.size w W → Calls Tryd.prog 36 #[.agg (cellsOf XX).toArray, .int .i64 (m : Int), .int .i64 (k : Int), .bool whole, .slice (some ⟨wb, wo, none⟩) L wcp] W (fun e w' => ∃ ra rl rc, e = .returned (.agg (bothC XX Y (.slice ra rl rc) true)) ∧ Below W.heap.size W w') from fun W hW => by
    refine (rgrow_c k (by omega) B k (by omega) XX m whole _ L wcp (way.take L) W h1 hmk HXD.out ((hw.below hW).take L (by omega)) (by omega) hwm hab (Nat.le_trans hB hW.size)).mono ?_
    have hg := both_grow hq
    rintro e w' ⟨hb, ⟨hu, rfl⟩ | ⟨x', y', rest, ra, rl, rc, hu, hx, hy, _, _, _, _, rfl⟩⟩
    · rw [hg] at hu; cases hu
    · rw [hg] at hu
      cases hu
      exact ⟨ra, rl, rc, rfl, hb⟩)
  have HREC := Lib.hid (show Y = U → ∀ W, Below w.heap.size w W → Calls Tryd.prog 23 #[.slice aa m ac, .slice ba k bc, .bool whole, .slice (some ⟨wb, wo, none⟩) L wcp] W (RetTrue W) from fun e1 W hW => ih B k hkn m a (b.take k) (way.take L) whole _ _ _ _ _ _ _ W h1 hmk (ha.below hW) hac ham ((hb.below hW).take k (by omega)) (by omega) hbm ((hw.below hW).take L (by omega)) (by omega) hwm hab (Nat.le_trans hB hW.size) (by rw [← hX, ← hU, ← e1]; exact hq) (by rw [List.take_take, Nat.min_eq_left hmk]; exact hne))
  have HQ1 := Lib.hid (fun W => eqDD dtR W HYD.out HUD.out)
  have HQ2 := Lib.hid (fun W => eqDD dtR W HSD.out HVD.out)
  have q1 : (m : Int) ≤ (k : Int) := by omega
  have HLS := Lib.hid (run_dload dtR w wb (wo + L * 32) s HSD.out (by
    obtain ⟨b', o', h1, _, h3⟩ := hw.at L (by omega)
    simp only [Option.some.injEq, Addr.mk.injEq, and_true] at h1
    obtain ⟨rfl, rfl⟩ := h1
    rw [hs]
    exact h3))
  have q2 : ¬ m = n := by omega
  have q3 : ¬ (m : Int) = (n : Int) := by omega
  have kI := fun W => run_dindex dtR W wb wo (L + 1) wcp L (by omega)
  have kW := fun W => run_dheadAt dtR W (some ⟨wb, wo, none⟩) (L + 1) wcp L (by omega)
  have kH := fun W => run_dheadAt dtR W ba n bc k (by omega)
  clear ih ha hb hw hs hlow hrb hU hV hX hq he hab htop hne hk
  go_enter Tryd.func23, Tryd.ntmps23
  go_upto_region 7 with (first | (go_at_call 30; refine (HH.out _).mono ?_; rintro e wb ⟨rfl, rfl⟩) | (refine wpList_loadg 31 _ (by rfl) (by rfl) (.pointer (some ⟨wb, wo + L * 32, none⟩)) (by rfl) (.agg (cellsOf s).toArray) HLS.out ?_) | (refine wpList_store_row (by rfl) 31 _ _ (by rfl) w.heap.size (cellsOf s).toArray (by rfl) (by rfl) 31 (cellsOf zs32).toArray (by exact heap_new _ _) HIS.out HZS.out (cellsOf_all _) ?_))
  obtain ⟨g10, hg10⟩ : ∃ g, g = w.heap.size := ⟨_, rfl⟩
  refine gen_code (F := SA w g10 s) (by
    rw [hg10]
    exact lay32 w s _ rfl) ?_
  rw [← hg10]
  rintro w2 ⟨h2a, h2b⟩
  have HA2 := Lib.hid h2a
  have HW2 := Lib.hid h2b
  clear h2a h2b HLS kI hg10
  go_wp2_with fail
  refine (HRT.out _ HW2.out).mono ?_
  rintro e w5 ⟨rfl, hb5⟩
  have HA5 := Lib.hid (HA2.out.below hb5 HA2.out.lt)
  have HW5 := Lib.hid (HW2.out.trans (hb5.mono HW2.out.size))
  clear hb5 HA2 HW2 HRT
  go_wp2_with fail
  refine (HG.out _ HW5.out).mono ?_
  rintro e w6 ⟨ra, rl, rc, rfl, hb6⟩
  have HAx := HA5
  have HWx := HW5
  clear HA5 HW5 HG
  have HCI := Lib.hid (info_bothC HXD.out HYD.out (.slice ra rl rc) true)
  have HCO := Lib.hid (bothC_one XX Y ra rl rc true)
  have HCS := Lib.hid (show noC.size = (bothC XX Y (.slice ra rl rc) true).size from by rw [bothC_size HXD.out HYD.out, noC_size])
  have HA6 := Lib.hid (HAx.out.below hb6 HAx.out.lt)
  have HW6 := Lib.hid (HWx.out.trans (hb6.mono HWx.out.size))
  clear hb6 HAx HWx
  go_upto_region 10 with (first | (refine wpList_storeB w6.heap.size (bothC XX Y (.slice ra rl rc) true) noC (.tmp 12) (.tmp 54) (by rfl) (by rfl) (by rfl) (by rfl) (by exact heap_newB _ _ (by kernel_rfl)) HCI.out HCS.out HCO.out ?_))
  refine gen_code (F := SB w (w6.heap.size + 1) [(g10, s)] w6.heap.size (bothC XX Y (.slice ra rl rc) true)) (SB.lay HA6.out HW6.out _ (by kernel_rfl)) ?_
  clear HA6 HW6
  obtain ⟨g12, hg12⟩ : ∃ g, g = w6.heap.size := ⟨_, rfl⟩
  rw [← hg12]
  obtain ⟨B1, hB1⟩ : ∃ B, B = g12 + 1 := ⟨_, rfl⟩
  rw [← hB1]
  intro w7 h7
  have hok := h7.2.2.2.2.2.okc HXD.out HYD.out
  have HLX := Lib.hid (fun W (hW : BR W g12 (bothC XX Y (.slice ra rl rc) true)) => hW.lfirst HXD.out)
  have HLY := Lib.hid (fun W (hW : BR W g12 (bothC XX Y (.slice ra rl rc) true)) => hW.lsecond HXD.out HYD.out)
  obtain ⟨CX, hCX⟩ : ∃ C, C = (bothC XX Y (.slice ra rl rc) true) := ⟨_, rfl⟩
  rw [← hCX] at HLX HLY h7
  have HS := Lib.hid h7
  clear h7 hg12 hB1 hCX HCI HCO HCS
  go_upto_region 12 with fail
  have HS := Lib.hid HS.out.drew
  clear hok
  go_cut [13, 14] from 15 (fun s13 s14 wx => ∃ g13 g14 : Nat, s13 = .pointer (some ⟨g13, 0, none⟩) ∧ s14 = .pointer (some ⟨g14, 0, none⟩) ∧ Hid (SB w B1 [(g10, s)] g12 CX wx ∧ Brow wx g13 31 U ∧ Brow wx g14 31 V))
  case first =>
    (try dsimp only [Act.put, List.setIfInBounds_toArray, List.set_cons_zero, List.set_cons_succ])
    refine anyH_begin (S := SB w B1 [(g10, s)] g12 CX) (by kernel_rfl) ?_
    refine anyH_pureG 0 (d := 58) (op := .move (.tmp 1)) (gd := none) (.slice ba n bc) (by rfl) (fun o ho => wanted_plain ho _) (by kernel_rfl) (by kernel_rfl) (by kernel_rfl) (fun _ _ _ h => h) (fun o ho W hW => by unfold execOp; simp only [ho]; go_simp) HS.out ?_
    simp only [Act.put, List.setIfInBounds_toArray, List.set_cons_zero, List.set_cons_succ]
    refine anyH_pureG 1 (d := 59) (op := .move (.tmp 9)) (gd := none) (.int .i64 (k : Int)) (by rfl) (fun o ho => wanted_plain ho _) (by kernel_rfl) (by kernel_rfl) (by kernel_rfl) (fun _ _ _ h => h) (fun o ho W hW => by unfold execOp; simp only [ho]; go_simp) HS.out ?_
    simp only [Act.put, List.setIfInBounds_toArray, List.set_cons_zero, List.set_cons_succ]
    refine anyH_pureG 2 (d := 60) (op := .slice 22 (.tmp 58) none (some (.tmp 59)) none) (gd := none) (.slice ba k bc) (by rfl) (fun o ho => wanted_plain ho _) (by kernel_rfl) (by kernel_rfl) (by kernel_rfl) (fun _ _ _ h => h) (fun o ho W hW => exec_dhead dtR (x := .tmp 58) (y := .tmp 59) ba n bc k (by omega) _ (by rfl) (by rfl) o ho W) HS.out ?_
    simp only [Act.put, List.setIfInBounds_toArray, List.set_cons_zero, List.set_cons_succ]
    refine anyH_pureG 4 (d := 62) (op := .move (.tmp 1)) (gd := none) (.slice ba n bc) (by rfl) (fun o ho => wanted_plain ho _) (by kernel_rfl) (by kernel_rfl) (by kernel_rfl) (fun _ _ _ h => h) (fun o ho W hW => by unfold execOp; simp only [ho]; go_simp) HS.out ?_
    simp only [Act.put, List.setIfInBounds_toArray, List.set_cons_zero, List.set_cons_succ]
    refine anyH_pureG 5 (d := 63) (op := .move (.tmp 9)) (gd := none) (.int .i64 (k : Int)) (by rfl) (fun o ho => wanted_plain ho _) (by kernel_rfl) (by kernel_rfl) (by kernel_rfl) (fun _ _ _ h => h) (fun o ho W hW => by unfold execOp; simp only [ho]; go_simp) HS.out ?_
    simp only [Act.put, List.setIfInBounds_toArray, List.set_cons_zero, List.set_cons_succ]
    refine anyH_pureG 6 (d := 64) (op := .slice 22 (.tmp 62) (some (.tmp 63)) none none) (gd := none) (.slice (sld ba bc k) (n - k) (bc - k)) (by rfl) (fun o ho => wanted_plain ho _) (by kernel_rfl) (by kernel_rfl) (by kernel_rfl) (fun _ _ _ h => h) (fun o ho W hW => exec_dcut dtR (x := .tmp 62) (y := .tmp 63) ba n bc k (by omega) _ (by rfl) (by rfl) o ho W) HS.out ?_
    simp only [Act.put, List.setIfInBounds_toArray, List.set_cons_zero, List.set_cons_succ]
    refine wpAnyH_all (rs := [3, 8, 9]) (by kernel_rfl) (by simp) ?_
    intro k hk; simp only [List.mem_cons, List.not_mem_nil, or_false] at hk; rcases hk with rfl | rfl | rfl
    · refine op_at 3 (d := some 61) (op := .call { callee := .value (.func 12), args := #[(.tmp 60)], argTypes := #[22] }) (by rfl) ?_
      intro o0 hod hoo
      refine wp_call_fn (R := _) hoo (vs := #[.slice ba k bc]) (by go_simp) (by go_simp) (HU.out w7.drew HS.out.1) ?_
      rintro e w1 ⟨rfl, hb⟩
      refine ⟨_, rfl, HS.out.step hb, ?_⟩
      rw [hod]
      have HS := Lib.hid (HS.out.step hb)
      clear hod hoo hb
      simp only [Act.put, List.setIfInBounds_toArray, List.set_cons_zero, List.set_cons_succ]
      refine wpAnyH_all (rs := [7, 8, 9]) (by kernel_rfl) (by simp) ?_
      intro k hk; simp only [List.mem_cons, List.not_mem_nil, or_false] at hk; rcases hk with rfl | rfl | rfl
      · refine op_at 7 (d := some 65) (op := .call { callee := .value (.func 12), args := #[(.tmp 64)], argTypes := #[22] }) (by rfl) ?_
        intro o0 hod hoo
        refine wp_call_fn (R := _) hoo (vs := #[.slice (sld ba bc k) (n - k) (bc - k)]) (by go_simp) (by go_simp) (HV.out w1 HS.out.1) ?_
        rintro e w2 ⟨rfl, hb⟩
        refine ⟨_, rfl, HS.out.step hb, ?_⟩
        rw [hod]
        have HS := Lib.hid (HS.out.step hb)
        clear hod hoo hb
        simp only [Act.put, List.setIfInBounds_toArray, List.set_cons_zero, List.set_cons_succ]
        refine wpAnyH_all (rs := [8, 9]) (by kernel_rfl) (by simp) ?_
        intro k hk; simp only [List.mem_cons, List.not_mem_nil, or_false] at hk; rcases hk with rfl | rfl
        · refine op_at 8 (d := some 13) (op := .alloc 31) (by rfl) ?_
          intro o0 hod hoo
          refine wp_alloc_32 hoo ?_
          have hb : Below w2.heap.size w2 (w2.alloc (.cells (cellsOf zs32).toArray 31)) := (Below.refl _ _).alloc (Nat.le_refl _) _
          refine ⟨HS.out.step hb, ?_⟩
          rw [hod]
          obtain ⟨g13, hg13⟩ : ∃ g, g = w2.heap.size := ⟨_, rfl⟩
          rw [← hg13]
          refine gen_anyH (F := fun W => Brow W g13 31 zs32 ∧ SB w B1 [(g10, s)] g12 CX W) ⟨(by rw [hg13]; exact heap_new _ _), (HS.out.step hb)⟩ ?_
          have hNg13 : B1 ≤ g13 := by have := HS.out.2.2.1; omega
          rintro w3 ⟨ha, hs⟩
          clear hg13 hb hod hoo HS
          have H13 := Lib.hid ha
          have HS := Lib.hid hs
          clear ha hs
          simp only [Act.put, List.setIfInBounds_toArray, List.set_cons_zero, List.set_cons_succ]
          refine wpAnyH_all (rs := [9]) (by kernel_rfl) (by simp) ?_
          intro k hk; simp only [List.mem_cons, List.not_mem_nil, or_false] at hk; subst hk
          refine op_at 9 (d := some 14) (op := .alloc 31) (by rfl) ?_
          intro o0 hod hoo
          refine wp_alloc_32 hoo ?_
          have hb : Below w3.heap.size w3 (w3.alloc (.cells (cellsOf zs32).toArray 31)) := (Below.refl _ _).alloc (Nat.le_refl _) _
          refine ⟨HS.out.step hb, ?_⟩
          rw [hod]
          obtain ⟨g14, hg14⟩ : ∃ g, g = w3.heap.size := ⟨_, rfl⟩
          rw [← hg14]
          refine gen_anyH (F := fun W => Brow W g14 31 zs32 ∧ SB w B1 [(g10, s)] g12 CX W ∧ Brow W g13 31 zs32) ⟨(by rw [hg14]; exact heap_new _ _), (HS.out.step hb), (H13.out.below hb H13.out.lt)⟩ ?_
          have hneg13 : g13 ≠ g14 := by have := H13.out.lt; omega
          have hNg14 : B1 ≤ g14 := by have := HS.out.2.2.1; omega
          rintro w4 ⟨ha, hs, hH13⟩
          clear hg14 hb hod hoo HS
          have H14 := Lib.hid ha
          have HS := Lib.hid hs
          have H13 := Lib.hid hH13
          clear ha hs hH13
          simp only [Act.put, List.setIfInBounds_toArray, List.set_cons_zero, List.set_cons_succ]
          have hdd : g13 ≠ g14 := by first | assumption | (intro h; exact absurd h.symm (by assumption))
          refine wpAnyH_all (rs := [10]) (by kernel_rfl) (by simp) ?_
          intro k hk; simp only [List.mem_cons, List.not_mem_nil, or_false] at hk; subst hk
          refine op_at 10 (d := none) (op := .store 31 (.tmp 13) (.tmp 61)) (by rfl) ?_
          intro o0 hod hoo
          refine wp_store_mid 31 (.tmp 13) (.tmp 61) hoo g13 0 (cellsOf U).toArray (by rfl) (by rfl) (H13.out.there _ (by rw [cellsOf_size, HUD.out.1]; first | rfl | exact HUD.out.1.symm | exact HVD.out.1.symm | (rw [cellsOf_size]; first | exact HUD.out.1.symm | exact HVD.out.1.symm))) (info32 dtR HUD.out) (cellsOf_all _) ?_
          rw [hod, List.toList_toArray]
          have ho : Only g13 w4 (w4.setCells g13 0 (cellsOf U)) := Only.setCells (cellsOf U) 0 (Only.refl _ _)
          refine ⟨HS.out.only ho hNg13, ?_⟩
          refine gen_anyH (F := fun W => SB w B1 [(g10, s)] g12 CX W ∧ Brow W g13 31 U ∧ Brow W g14 31 zs32) ⟨HS.out.only ho hNg13, H13.out.setAll (by rw [HUD.out.1]; first | rfl | exact HUD.out.1.symm), H14.out.only ho (Ne.symm hdd)⟩ ?_
          rintro w5 ⟨hs, ha, hb⟩
          clear hod hoo ho HS H13 H14
          have HS := Lib.hid hs
          have H13 := Lib.hid ha
          have H14 := Lib.hid hb
          clear hs ha hb
          simp only [Act.put]
          refine wpAnyH_all (rs := [11]) (by kernel_rfl) (by simp) ?_
          intro k hk; simp only [List.mem_cons, List.not_mem_nil, or_false] at hk; subst hk
          refine op_at 11 (d := none) (op := .store 31 (.tmp 14) (.tmp 65)) (by rfl) ?_
          intro o0 hod hoo
          refine wp_store_mid 31 (.tmp 14) (.tmp 65) hoo g14 0 (cellsOf V).toArray (by rfl) (by rfl) (H14.out.there _ (by rw [cellsOf_size, HVD.out.1]; first | rfl | exact HUD.out.1.symm | exact HVD.out.1.symm | (rw [cellsOf_size]; first | exact HUD.out.1.symm | exact HVD.out.1.symm))) (info32 dtR HVD.out) (cellsOf_all _) ?_
          rw [hod, List.toList_toArray]
          have ho : Only g14 w5 (w5.setCells g14 0 (cellsOf V)) := Only.setCells (cellsOf V) 0 (Only.refl _ _)
          refine ⟨HS.out.only ho hNg14, ?_⟩
          refine gen_anyH (F := fun W => SB w B1 [(g10, s)] g12 CX W ∧ Brow W g13 31 U ∧ Brow W g14 31 V) ⟨HS.out.only ho hNg14, H13.out.only ho hdd, H14.out.setAll (by rw [HVD.out.1]; first | rfl | exact HVD.out.1.symm)⟩ ?_
          intro w6 hf
          have HF := Lib.hid hf
          clear hod hoo ho hf HS H13 H14
          simp only [Act.put]
          refine wpAnyH_done (by kernel_rfl) ?_ _
          go_wp2_with fail
          go_meet
          exact ⟨g13, g14, rfl, rfl, HF⟩
        · refine op_at 9 (d := some 14) (op := .alloc 31) (by rfl) ?_
          intro o0 hod hoo
          refine wp_alloc_32 hoo ?_
          have hb : Below w2.heap.size w2 (w2.alloc (.cells (cellsOf zs32).toArray 31)) := (Below.refl _ _).alloc (Nat.le_refl _) _
          refine ⟨HS.out.step hb, ?_⟩
          rw [hod]
          obtain ⟨g14, hg14⟩ : ∃ g, g = w2.heap.size := ⟨_, rfl⟩
          rw [← hg14]
          refine gen_anyH (F := fun W => Brow W g14 31 zs32 ∧ SB w B1 [(g10, s)] g12 CX W) ⟨(by rw [hg14]; exact heap_new _ _), (HS.out.step hb)⟩ ?_
          have hNg14 : B1 ≤ g14 := by have := HS.out.2.2.1; omega
          rintro w7 ⟨ha, hs⟩
          clear hg14 hb hod hoo HS
          have H14 := Lib.hid ha
          have HS := Lib.hid hs
          clear ha hs
          simp only [Act.put, List.setIfInBounds_toArray, List.set_cons_zero, List.set_cons_succ]
          refine wpAnyH_all (rs := [8]) (by kernel_rfl) (by simp) ?_
          intro k hk; simp only [List.mem_cons, List.not_mem_nil, or_false] at hk; subst hk
          refine op_at 8 (d := some 13) (op := .alloc 31) (by rfl) ?_
          intro o0 hod hoo
          refine wp_alloc_32 hoo ?_
          have hb : Below w7.heap.size w7 (w7.alloc (.cells (cellsOf zs32).toArray 31)) := (Below.refl _ _).alloc (Nat.le_refl _) _
          refine ⟨HS.out.step hb, ?_⟩
          rw [hod]
          obtain ⟨g13, hg13⟩ : ∃ g, g = w7.heap.size := ⟨_, rfl⟩
          rw [← hg13]
          refine gen_anyH (F := fun W => Brow W g13 31 zs32 ∧ SB w B1 [(g10, s)] g12 CX W ∧ Brow W g14 31 zs32) ⟨(by rw [hg13]; exact heap_new _ _), (HS.out.step hb), (H14.out.below hb H14.out.lt)⟩ ?_
          have hneg14 : g14 ≠ g13 := by have := H14.out.lt; omega
          have hNg13 : B1 ≤ g13 := by have := HS.out.2.2.1; omega
          rintro w8 ⟨ha, hs, hH14⟩
          clear hg13 hb hod hoo HS
          have H13 := Lib.hid ha
          have HS := Lib.hid hs
          have H14 := Lib.hid hH14
          clear ha hs hH14
          simp only [Act.put, List.setIfInBounds_toArray, List.set_cons_zero, List.set_cons_succ]
          have hdd : g13 ≠ g14 := by first | assumption | (intro h; exact absurd h.symm (by assumption))
          refine wpAnyH_all (rs := [10]) (by kernel_rfl) (by simp) ?_
          intro k hk; simp only [List.mem_cons, List.not_mem_nil, or_false] at hk; subst hk
          refine op_at 10 (d := none) (op := .store 31 (.tmp 13) (.tmp 61)) (by rfl) ?_
          intro o0 hod hoo
          refine wp_store_mid 31 (.tmp 13) (.tmp 61) hoo g13 0 (cellsOf U).toArray (by rfl) (by rfl) (H13.out.there _ (by rw [cellsOf_size, HUD.out.1]; first | rfl | exact HUD.out.1.symm | exact HVD.out.1.symm | (rw [cellsOf_size]; first | exact HUD.out.1.symm | exact HVD.out.1.symm))) (info32 dtR HUD.out) (cellsOf_all _) ?_
          rw [hod, List.toList_toArray]
          have ho : Only g13 w8 (w8.setCells g13 0 (cellsOf U)) := Only.setCells (cellsOf U) 0 (Only.refl _ _)
          refine ⟨HS.out.only ho hNg13, ?_⟩
          refine gen_anyH (F := fun W => SB w B1 [(g10, s)] g12 CX W ∧ Brow W g13 31 U ∧ Brow W g14 31 zs32) ⟨HS.out.only ho hNg13, H13.out.setAll (by rw [HUD.out.1]; first | rfl | exact HUD.out.1.symm), H14.out.only ho (Ne.symm hdd)⟩ ?_
          rintro w9 ⟨hs, ha, hb⟩
          clear hod hoo ho HS H13 H14
          have HS := Lib.hid hs
          have H13 := Lib.hid ha
          have H14 := Lib.hid hb
          clear hs ha hb
          simp only [Act.put]
          refine wpAnyH_all (rs := [11]) (by kernel_rfl) (by simp) ?_
          intro k hk; simp only [List.mem_cons, List.not_mem_nil, or_false] at hk; subst hk
          refine op_at 11 (d := none) (op := .store 31 (.tmp 14) (.tmp 65)) (by rfl) ?_
          intro o0 hod hoo
          refine wp_store_mid 31 (.tmp 14) (.tmp 65) hoo g14 0 (cellsOf V).toArray (by rfl) (by rfl) (H14.out.there _ (by rw [cellsOf_size, HVD.out.1]; first | rfl | exact HUD.out.1.symm | exact HVD.out.1.symm | (rw [cellsOf_size]; first | exact HUD.out.1.symm | exact HVD.out.1.symm))) (info32 dtR HVD.out) (cellsOf_all _) ?_
          rw [hod, List.toList_toArray]
          have ho : Only g14 w9 (w9.setCells g14 0 (cellsOf V)) := Only.setCells (cellsOf V) 0 (Only.refl _ _)
          refine ⟨HS.out.only ho hNg14, ?_⟩
          refine gen_anyH (F := fun W => SB w B1 [(g10, s)] g12 CX W ∧ Brow W g13 31 U ∧ Brow W g14 31 V) ⟨HS.out.only ho hNg14, H13.out.only ho hdd, H14.out.setAll (by rw [HVD.out.1]; first | rfl | exact HVD.out.1.symm)⟩ ?_
          intro w10 hf
          have HF := Lib.hid hf
          clear hod hoo ho hf HS H13 H14
          simp only [Act.put]
          refine wpAnyH_done (by kernel_rfl) ?_ _
          go_wp2_with fail
          go_meet
          exact ⟨g13, g14, rfl, rfl, HF⟩
      · refine op_at 8 (d := some 13) (op := .alloc 31) (by rfl) ?_
        intro o0 hod hoo
        refine wp_alloc_32 hoo ?_
        have hb : Below w1.heap.size w1 (w1.alloc (.cells (cellsOf zs32).toArray 31)) := (Below.refl _ _).alloc (Nat.le_refl _) _
        refine ⟨HS.out.step hb, ?_⟩
        rw [hod]
        obtain ⟨g13, hg13⟩ : ∃ g, g = w1.heap.size := ⟨_, rfl⟩
        rw [← hg13]
        refine gen_anyH (F := fun W => Brow W g13 31 zs32 ∧ SB w B1 [(g10, s)] g12 CX W) ⟨(by rw [hg13]; exact heap_new _ _), (HS.out.step hb)⟩ ?_
        have hNg13 : B1 ≤ g13 := by have := HS.out.2.2.1; omega
        rintro w11 ⟨ha, hs⟩
        clear hg13 hb hod hoo HS
        have H13 := Lib.hid ha
        have HS := Lib.hid hs
        clear ha hs
        simp only [Act.put, List.setIfInBounds_toArray, List.set_cons_zero, List.set_cons_succ]
        refine wpAnyH_all (rs := [7, 9]) (by kernel_rfl) (by simp) ?_
        intro k hk; simp only [List.mem_cons, List.not_mem_nil, or_false] at hk; rcases hk with rfl | rfl
        · refine op_at 7 (d := some 65) (op := .call { callee := .value (.func 12), args := #[(.tmp 64)], argTypes := #[22] }) (by rfl) ?_
          intro o0 hod hoo
          refine wp_call_fn (R := _) hoo (vs := #[.slice (sld ba bc k) (n - k) (bc - k)]) (by go_simp) (by go_simp) (HV.out w11 HS.out.1) ?_
          rintro e w12 ⟨rfl, hb⟩
          refine ⟨_, rfl, HS.out.step hb, ?_⟩
          rw [hod]
          have H13 := Lib.hid (H13.out.below hb H13.out.lt)
          have HS := Lib.hid (HS.out.step hb)
          clear hod hoo hb
          simp only [Act.put, List.setIfInBounds_toArray, List.set_cons_zero, List.set_cons_succ]
          refine wpAnyH_all (rs := [9]) (by kernel_rfl) (by simp) ?_
          intro k hk; simp only [List.mem_cons, List.not_mem_nil, or_false] at hk; subst hk
          refine op_at 9 (d := some 14) (op := .alloc 31) (by rfl) ?_
          intro o0 hod hoo
          refine wp_alloc_32 hoo ?_
          have hb : Below w12.heap.size w12 (w12.alloc (.cells (cellsOf zs32).toArray 31)) := (Below.refl _ _).alloc (Nat.le_refl _) _
          refine ⟨HS.out.step hb, ?_⟩
          rw [hod]
          obtain ⟨g14, hg14⟩ : ∃ g, g = w12.heap.size := ⟨_, rfl⟩
          rw [← hg14]
          refine gen_anyH (F := fun W => Brow W g14 31 zs32 ∧ SB w B1 [(g10, s)] g12 CX W ∧ Brow W g13 31 zs32) ⟨(by rw [hg14]; exact heap_new _ _), (HS.out.step hb), (H13.out.below hb H13.out.lt)⟩ ?_
          have hneg13 : g13 ≠ g14 := by have := H13.out.lt; omega
          have hNg14 : B1 ≤ g14 := by have := HS.out.2.2.1; omega
          rintro w13 ⟨ha, hs, hH13⟩
          clear hg14 hb hod hoo HS
          have H14 := Lib.hid ha
          have HS := Lib.hid hs
          have H13 := Lib.hid hH13
          clear ha hs hH13
          simp only [Act.put, List.setIfInBounds_toArray, List.set_cons_zero, List.set_cons_succ]
          have hdd : g13 ≠ g14 := by first | assumption | (intro h; exact absurd h.symm (by assumption))
          refine wpAnyH_all (rs := [10]) (by kernel_rfl) (by simp) ?_
          intro k hk; simp only [List.mem_cons, List.not_mem_nil, or_false] at hk; subst hk
          refine op_at 10 (d := none) (op := .store 31 (.tmp 13) (.tmp 61)) (by rfl) ?_
          intro o0 hod hoo
          refine wp_store_mid 31 (.tmp 13) (.tmp 61) hoo g13 0 (cellsOf U).toArray (by rfl) (by rfl) (H13.out.there _ (by rw [cellsOf_size, HUD.out.1]; first | rfl | exact HUD.out.1.symm | exact HVD.out.1.symm | (rw [cellsOf_size]; first | exact HUD.out.1.symm | exact HVD.out.1.symm))) (info32 dtR HUD.out) (cellsOf_all _) ?_
          rw [hod, List.toList_toArray]
          have ho : Only g13 w13 (w13.setCells g13 0 (cellsOf U)) := Only.setCells (cellsOf U) 0 (Only.refl _ _)
          refine ⟨HS.out.only ho hNg13, ?_⟩
          refine gen_anyH (F := fun W => SB w B1 [(g10, s)] g12 CX W ∧ Brow W g13 31 U ∧ Brow W g14 31 zs32) ⟨HS.out.only ho hNg13, H13.out.setAll (by rw [HUD.out.1]; first | rfl | exact HUD.out.1.symm), H14.out.only ho (Ne.symm hdd)⟩ ?_
          rintro w14 ⟨hs, ha, hb⟩
          clear hod hoo ho HS H13 H14
          have HS := Lib.hid hs
          have H13 := Lib.hid ha
          have H14 := Lib.hid hb
          clear hs ha hb
          simp only [Act.put]
          refine wpAnyH_all (rs := [11]) (by kernel_rfl) (by simp) ?_
          intro k hk; simp only [List.mem_cons, List.not_mem_nil, or_false] at hk; subst hk
          refine op_at 11 (d := none) (op := .store 31 (.tmp 14) (.tmp 65)) (by rfl) ?_
          intro o0 hod hoo
          refine wp_store_mid 31 (.tmp 14) (.tmp 65) hoo g14 0 (cellsOf V).toArray (by rfl) (by rfl) (H14.out.there _ (by rw [cellsOf_size, HVD.out.1]; first | rfl | exact HUD.out.1.symm | exact HVD.out.1.symm | (rw [cellsOf_size]; first | exact HUD.out.1.symm | exact HVD.out.1.symm))) (info32 dtR HVD.out) (cellsOf_all _) ?_
          rw [hod, List.toList_toArray]
          have ho : Only g14 w14 (w14.setCells g14 0 (cellsOf V)) := Only.setCells (cellsOf V) 0 (Only.refl _ _)
          refine ⟨HS.out.only ho hNg14, ?_⟩
          refine gen_anyH (F := fun W => SB w B1 [(g10, s)] g12 CX W ∧ Brow W g13 31 U ∧ Brow W g14 31 V) ⟨HS.out.only ho hNg14, H13.out.only ho hdd, H14.out.setAll (by rw [HVD.out.1]; first | rfl | exact HVD.out.1.symm)⟩ ?_
          intro w15 hf
          have HF := Lib.hid hf
          clear hod hoo ho hf HS H13 H14
          simp only [Act.put]
          refine wpAnyH_done (by kernel_rfl) ?_ _
          go_wp2_with fail
          go_meet
          exact ⟨g13, g14, rfl, rfl, HF⟩
        · refine op_at 9 (d := some 14) (op := .alloc 31) (by rfl) ?_
          intro o0 hod hoo
          refine wp_alloc_32 hoo ?_
          have hb : Below w11.heap.size w11 (w11.alloc (.cells (cellsOf zs32).toArray 31)) := (Below.refl _ _).alloc (Nat.le_refl _) _
          refine ⟨HS.out.step hb, ?_⟩
          rw [hod]
          obtain ⟨g14, hg14⟩ : ∃ g, g = w11.heap.size := ⟨_, rfl⟩
          rw [← hg14]
          refine gen_anyH (F := fun W => Brow W g14 31 zs32 ∧ SB w B1 [(g10, s)] g12 CX W ∧ Brow W g13 31 zs32) ⟨(by rw [hg14]; exact heap_new _ _), (HS.out.step hb), (H13.out.below hb H13.out.lt)⟩ ?_
          have hneg13 : g13 ≠ g14 := by have := H13.out.lt; omega
          have hNg14 : B1 ≤ g14 := by have := HS.out.2.2.1; omega
          rintro w16 ⟨ha, hs, hH13⟩
          clear hg14 hb hod hoo HS
          have H14 := Lib.hid ha
          have HS := Lib.hid hs
          have H13 := Lib.hid hH13
          clear ha hs hH13
          simp only [Act.put, List.setIfInBounds_toArray, List.set_cons_zero, List.set_cons_succ]
          refine wpAnyH_all (rs := [7]) (by kernel_rfl) (by simp) ?_
          intro k hk; simp only [List.mem_cons, List.not_mem_nil, or_false] at hk; subst hk
          refine op_at 7 (d := some 65) (op := .call { callee := .value (.func 12), args := #[(.tmp 64)], argTypes := #[22] }) (by rfl) ?_
          intro o0 hod hoo
          refine wp_call_fn (R := _) hoo (vs := #[.slice (sld ba bc k) (n - k) (bc - k)]) (by go_simp) (by go_simp) (HV.out w16 HS.out.1) ?_
          rintro e w17 ⟨rfl, hb⟩
          refine ⟨_, rfl, HS.out.step hb, ?_⟩
          rw [hod]
          have H13 := Lib.hid (H13.out.below hb H13.out.lt)
          have H14 := Lib.hid (H14.out.below hb H14.out.lt)
          have HS := Lib.hid (HS.out.step hb)
          clear hod hoo hb
          simp only [Act.put, List.setIfInBounds_toArray, List.set_cons_zero, List.set_cons_succ]
          have hdd : g13 ≠ g14 := by first | assumption | (intro h; exact absurd h.symm (by assumption))
          refine wpAnyH_all (rs := [10]) (by kernel_rfl) (by simp) ?_
          intro k hk; simp only [List.mem_cons, List.not_mem_nil, or_false] at hk; subst hk
          refine op_at 10 (d := none) (op := .store 31 (.tmp 13) (.tmp 61)) (by rfl) ?_
          intro o0 hod hoo
          refine wp_store_mid 31 (.tmp 13) (.tmp 61) hoo g13 0 (cellsOf U).toArray (by rfl) (by rfl) (H13.out.there _ (by rw [cellsOf_size, HUD.out.1]; first | rfl | exact HUD.out.1.symm | exact HVD.out.1.symm | (rw [cellsOf_size]; first | exact HUD.out.1.symm | exact HVD.out.1.symm))) (info32 dtR HUD.out) (cellsOf_all _) ?_
          rw [hod, List.toList_toArray]
          have ho : Only g13 w17 (w17.setCells g13 0 (cellsOf U)) := Only.setCells (cellsOf U) 0 (Only.refl _ _)
          refine ⟨HS.out.only ho hNg13, ?_⟩
          refine gen_anyH (F := fun W => SB w B1 [(g10, s)] g12 CX W ∧ Brow W g13 31 U ∧ Brow W g14 31 zs32) ⟨HS.out.only ho hNg13, H13.out.setAll (by rw [HUD.out.1]; first | rfl | exact HUD.out.1.symm), H14.out.only ho (Ne.symm hdd)⟩ ?_
          rintro w18 ⟨hs, ha, hb⟩
          clear hod hoo ho HS H13 H14
          have HS := Lib.hid hs
          have H13 := Lib.hid ha
          have H14 := Lib.hid hb
          clear hs ha hb
          simp only [Act.put]
          refine wpAnyH_all (rs := [11]) (by kernel_rfl) (by simp) ?_
          intro k hk; simp only [List.mem_cons, List.not_mem_nil, or_false] at hk; subst hk
          refine op_at 11 (d := none) (op := .store 31 (.tmp 14) (.tmp 65)) (by rfl) ?_
          intro o0 hod hoo
          refine wp_store_mid 31 (.tmp 14) (.tmp 65) hoo g14 0 (cellsOf V).toArray (by rfl) (by rfl) (H14.out.there _ (by rw [cellsOf_size, HVD.out.1]; first | rfl | exact HUD.out.1.symm | exact HVD.out.1.symm | (rw [cellsOf_size]; first | exact HUD.out.1.symm | exact HVD.out.1.symm))) (info32 dtR HVD.out) (cellsOf_all _) ?_
          rw [hod, List.toList_toArray]
          have ho : Only g14 w18 (w18.setCells g14 0 (cellsOf V)) := Only.setCells (cellsOf V) 0 (Only.refl _ _)
          refine ⟨HS.out.only ho hNg14, ?_⟩
          refine gen_anyH (F := fun W => SB w B1 [(g10, s)] g12 CX W ∧ Brow W g13 31 U ∧ Brow W g14 31 V) ⟨HS.out.only ho hNg14, H13.out.only ho hdd, H14.out.setAll (by rw [HVD.out.1]; first | rfl | exact HVD.out.1.symm)⟩ ?_
          intro w19 hf
          have HF := Lib.hid hf
          clear hod hoo ho hf HS H13 H14
          simp only [Act.put]
          refine wpAnyH_done (by kernel_rfl) ?_ _
          go_wp2_with fail
          go_meet
          exact ⟨g13, g14, rfl, rfl, HF⟩
      · refine op_at 9 (d := some 14) (op := .alloc 31) (by rfl) ?_
        intro o0 hod hoo
        refine wp_alloc_32 hoo ?_
        have hb : Below w1.heap.size w1 (w1.alloc (.cells (cellsOf zs32).toArray 31)) := (Below.refl _ _).alloc (Nat.le_refl _) _
        refine ⟨HS.out.step hb, ?_⟩
        rw [hod]
        obtain ⟨g14, hg14⟩ : ∃ g, g = w1.heap.size := ⟨_, rfl⟩
        rw [← hg14]
        refine gen_anyH (F := fun W => Brow W g14 31 zs32 ∧ SB w B1 [(g10, s)] g12 CX W) ⟨(by rw [hg14]; exact heap_new _ _), (HS.out.step hb)⟩ ?_
        have hNg14 : B1 ≤ g14 := by have := HS.out.2.2.1; omega
        rintro w20 ⟨ha, hs⟩
        clear hg14 hb hod hoo HS
        have H14 := Lib.hid ha
        have HS := Lib.hid hs
        clear ha hs
        simp only [Act.put, List.setIfInBounds_toArray, List.set_cons_zero, List.set_cons_succ]
        refine wpAnyH_all (rs := [7, 8]) (by kernel_rfl) (by simp) ?_
        intro k hk; simp only [List.mem_cons, List.not_mem_nil, or_false] at hk; rcases hk with rfl | rfl
        · refine op_at 7 (d := some 65) (op := .call { callee := .value (.func 12), args := #[(.tmp 64)], argTypes := #[22] }) (by rfl) ?_
          intro o0 hod hoo
          refine wp_call_fn (R := _) hoo (vs := #[.slice (sld ba bc k) (n - k) (bc - k)]) (by go_simp) (by go_simp) (HV.out w20 HS.out.1) ?_
          rintro e w21 ⟨rfl, hb⟩
          refine ⟨_, rfl, HS.out.step hb, ?_⟩
          rw [hod]
          have H14 := Lib.hid (H14.out.below hb H14.out.lt)
          have HS := Lib.hid (HS.out.step hb)
          clear hod hoo hb
          simp only [Act.put, List.setIfInBounds_toArray, List.set_cons_zero, List.set_cons_succ]
          refine wpAnyH_all (rs := [8]) (by kernel_rfl) (by simp) ?_
          intro k hk; simp only [List.mem_cons, List.not_mem_nil, or_false] at hk; subst hk
          refine op_at 8 (d := some 13) (op := .alloc 31) (by rfl) ?_
          intro o0 hod hoo
          refine wp_alloc_32 hoo ?_
          have hb : Below w21.heap.size w21 (w21.alloc (.cells (cellsOf zs32).toArray 31)) := (Below.refl _ _).alloc (Nat.le_refl _) _
          refine ⟨HS.out.step hb, ?_⟩
          rw [hod]
          obtain ⟨g13, hg13⟩ : ∃ g, g = w21.heap.size := ⟨_, rfl⟩
          rw [← hg13]
          refine gen_anyH (F := fun W => Brow W g13 31 zs32 ∧ SB w B1 [(g10, s)] g12 CX W ∧ Brow W g14 31 zs32) ⟨(by rw [hg13]; exact heap_new _ _), (HS.out.step hb), (H14.out.below hb H14.out.lt)⟩ ?_
          have hneg14 : g14 ≠ g13 := by have := H14.out.lt; omega
          have hNg13 : B1 ≤ g13 := by have := HS.out.2.2.1; omega
          rintro w22 ⟨ha, hs, hH14⟩
          clear hg13 hb hod hoo HS
          have H13 := Lib.hid ha
          have HS := Lib.hid hs
          have H14 := Lib.hid hH14
          clear ha hs hH14
          simp only [Act.put, List.setIfInBounds_toArray, List.set_cons_zero, List.set_cons_succ]
          have hdd : g13 ≠ g14 := by first | assumption | (intro h; exact absurd h.symm (by assumption))
          refine wpAnyH_all (rs := [10]) (by kernel_rfl) (by simp) ?_
          intro k hk; simp only [List.mem_cons, List.not_mem_nil, or_false] at hk; subst hk
          refine op_at 10 (d := none) (op := .store 31 (.tmp 13) (.tmp 61)) (by rfl) ?_
          intro o0 hod hoo
          refine wp_store_mid 31 (.tmp 13) (.tmp 61) hoo g13 0 (cellsOf U).toArray (by rfl) (by rfl) (H13.out.there _ (by rw [cellsOf_size, HUD.out.1]; first | rfl | exact HUD.out.1.symm | exact HVD.out.1.symm | (rw [cellsOf_size]; first | exact HUD.out.1.symm | exact HVD.out.1.symm))) (info32 dtR HUD.out) (cellsOf_all _) ?_
          rw [hod, List.toList_toArray]
          have ho : Only g13 w22 (w22.setCells g13 0 (cellsOf U)) := Only.setCells (cellsOf U) 0 (Only.refl _ _)
          refine ⟨HS.out.only ho hNg13, ?_⟩
          refine gen_anyH (F := fun W => SB w B1 [(g10, s)] g12 CX W ∧ Brow W g13 31 U ∧ Brow W g14 31 zs32) ⟨HS.out.only ho hNg13, H13.out.setAll (by rw [HUD.out.1]; first | rfl | exact HUD.out.1.symm), H14.out.only ho (Ne.symm hdd)⟩ ?_
          rintro w23 ⟨hs, ha, hb⟩
          clear hod hoo ho HS H13 H14
          have HS := Lib.hid hs
          have H13 := Lib.hid ha
          have H14 := Lib.hid hb
          clear hs ha hb
          simp only [Act.put]
          refine wpAnyH_all (rs := [11]) (by kernel_rfl) (by simp) ?_
          intro k hk; simp only [List.mem_cons, List.not_mem_nil, or_false] at hk; subst hk
          refine op_at 11 (d := none) (op := .store 31 (.tmp 14) (.tmp 65)) (by rfl) ?_
          intro o0 hod hoo
          refine wp_store_mid 31 (.tmp 14) (.tmp 65) hoo g14 0 (cellsOf V).toArray (by rfl) (by rfl) (H14.out.there _ (by rw [cellsOf_size, HVD.out.1]; first | rfl | exact HUD.out.1.symm | exact HVD.out.1.symm | (rw [cellsOf_size]; first | exact HUD.out.1.symm | exact HVD.out.1.symm))) (info32 dtR HVD.out) (cellsOf_all _) ?_
          rw [hod, List.toList_toArray]
          have ho : Only g14 w23 (w23.setCells g14 0 (cellsOf V)) := Only.setCells (cellsOf V) 0 (Only.refl _ _)
          refine ⟨HS.out.only ho hNg14, ?_⟩
          refine gen_anyH (F := fun W => SB w B1 [(g10, s)] g12 CX W ∧ Brow W g13 31 U ∧ Brow W g14 31 V) ⟨HS.out.only ho hNg14, H13.out.only ho hdd, H14.out.setAll (by rw [HVD.out.1]; first | rfl | exact HVD.out.1.symm)⟩ ?_
          intro w24 hf
          have HF := Lib.hid hf
          clear hod hoo ho hf HS H13 H14
          simp only [Act.put]
          refine wpAnyH_done (by kernel_rfl) ?_ _
          go_wp2_with fail
          go_meet
          exact ⟨g13, g14, rfl, rfl, HF⟩
        · refine op_at 8 (d := some 13) (op := .alloc 31) (by rfl) ?_
          intro o0 hod hoo
          refine wp_alloc_32 hoo ?_
          have hb : Below w20.heap.size w20 (w20.alloc (.cells (cellsOf zs32).toArray 31)) := (Below.refl _ _).alloc (Nat.le_refl _) _
          refine ⟨HS.out.step hb, ?_⟩
          rw [hod]
          obtain ⟨g13, hg13⟩ : ∃ g, g = w20.heap.size := ⟨_, rfl⟩
          rw [← hg13]
          refine gen_anyH (F := fun W => Brow W g13 31 zs32 ∧ SB w B1 [(g10, s)] g12 CX W ∧ Brow W g14 31 zs32) ⟨(by rw [hg13]; exact heap_new _ _), (HS.out.step hb), (H14.out.below hb H14.out.lt)⟩ ?_
          have hneg14 : g14 ≠ g13 := by have := H14.out.lt; omega
          have hNg13 : B1 ≤ g13 := by have := HS.out.2.2.1; omega
          rintro w25 ⟨ha, hs, hH14⟩
          clear hg13 hb hod hoo HS
          have H13 := Lib.hid ha
          have HS := Lib.hid hs
          have H14 := Lib.hid hH14
          clear ha hs hH14
          simp only [Act.put, List.setIfInBounds_toArray, List.set_cons_zero, List.set_cons_succ]
          refine wpAnyH_all (rs := [7]) (by kernel_rfl) (by simp) ?_
          intro k hk; simp only [List.mem_cons, List.not_mem_nil, or_false] at hk; subst hk
          refine op_at 7 (d := some 65) (op := .call { callee := .value (.func 12), args := #[(.tmp 64)], argTypes := #[22] }) (by rfl) ?_
          intro o0 hod hoo
          refine wp_call_fn (R := _) hoo (vs := #[.slice (sld ba bc k) (n - k) (bc - k)]) (by go_simp) (by go_simp) (HV.out w25 HS.out.1) ?_
          rintro e w26 ⟨rfl, hb⟩
          refine ⟨_, rfl, HS.out.step hb, ?_⟩
          rw [hod]
          have H13 := Lib.hid (H13.out.below hb H13.out.lt)
          have H14 := Lib.hid (H14.out.below hb H14.out.lt)
          have HS := Lib.hid (HS.out.step hb)
          clear hod hoo hb
          simp only [Act.put, List.setIfInBounds_toArray, List.set_cons_zero, List.set_cons_succ]
          have hdd : g13 ≠ g14 := by first | assumption | (intro h; exact absurd h.symm (by assumption))
          refine wpAnyH_all (rs := [10]) (by kernel_rfl) (by simp) ?_
          intro k hk; simp only [List.mem_cons, List.not_mem_nil, or_false] at hk; subst hk
          refine op_at 10 (d := none) (op := .store 31 (.tmp 13) (.tmp 61)) (by rfl) ?_
          intro o0 hod hoo
          refine wp_store_mid 31 (.tmp 13) (.tmp 61) hoo g13 0 (cellsOf U).toArray (by rfl) (by rfl) (H13.out.there _ (by rw [cellsOf_size, HUD.out.1]; first | rfl | exact HUD.out.1.symm | exact HVD.out.1.symm | (rw [cellsOf_size]; first | exact HUD.out.1.symm | exact HVD.out.1.symm))) (info32 dtR HUD.out) (cellsOf_all _) ?_
          rw [hod, List.toList_toArray]
          have ho : Only g13 w26 (w26.setCells g13 0 (cellsOf U)) := Only.setCells (cellsOf U) 0 (Only.refl _ _)
          refine ⟨HS.out.only ho hNg13, ?_⟩
          refine gen_anyH (F := fun W => SB w B1 [(g10, s)] g12 CX W ∧ Brow W g13 31 U ∧ Brow W g14 31 zs32) ⟨HS.out.only ho hNg13, H13.out.setAll (by rw [HUD.out.1]; first | rfl | exact HUD.out.1.symm), H14.out.only ho (Ne.symm hdd)⟩ ?_
          rintro w27 ⟨hs, ha, hb⟩
          clear hod hoo ho HS H13 H14
          have HS := Lib.hid hs
          have H13 := Lib.hid ha
          have H14 := Lib.hid hb
          clear hs ha hb
          simp only [Act.put]
          refine wpAnyH_all (rs := [11]) (by kernel_rfl) (by simp) ?_
          intro k hk; simp only [List.mem_cons, List.not_mem_nil, or_false] at hk; subst hk
          refine op_at 11 (d := none) (op := .store 31 (.tmp 14) (.tmp 65)) (by rfl) ?_
          intro o0 hod hoo
          refine wp_store_mid 31 (.tmp 14) (.tmp 65) hoo g14 0 (cellsOf V).toArray (by rfl) (by rfl) (H14.out.there _ (by rw [cellsOf_size, HVD.out.1]; first | rfl | exact HUD.out.1.symm | exact HVD.out.1.symm | (rw [cellsOf_size]; first | exact HUD.out.1.symm | exact HVD.out.1.symm))) (info32 dtR HVD.out) (cellsOf_all _) ?_
          rw [hod, List.toList_toArray]
          have ho : Only g14 w27 (w27.setCells g14 0 (cellsOf V)) := Only.setCells (cellsOf V) 0 (Only.refl _ _)
          refine ⟨HS.out.only ho hNg14, ?_⟩
          refine gen_anyH (F := fun W => SB w B1 [(g10, s)] g12 CX W ∧ Brow W g13 31 U ∧ Brow W g14 31 V) ⟨HS.out.only ho hNg14, H13.out.only ho hdd, H14.out.setAll (by rw [HVD.out.1]; first | rfl | exact HVD.out.1.symm)⟩ ?_
          intro w28 hf
          have HF := Lib.hid hf
          clear hod hoo ho hf HS H13 H14
          simp only [Act.put]
          refine wpAnyH_done (by kernel_rfl) ?_ _
          go_wp2_with fail
          go_meet
          exact ⟨g13, g14, rfl, rfl, HF⟩
    · refine op_at 8 (d := some 13) (op := .alloc 31) (by rfl) ?_
      intro o0 hod hoo
      refine wp_alloc_32 hoo ?_
      have hb : Below w7.drew.heap.size w7.drew (w7.drew.alloc (.cells (cellsOf zs32).toArray 31)) := (Below.refl _ _).alloc (Nat.le_refl _) _
      refine ⟨HS.out.step hb, ?_⟩
      rw [hod]
      obtain ⟨g13, hg13⟩ : ∃ g, g = w7.drew.heap.size := ⟨_, rfl⟩
      rw [← hg13]
      refine gen_anyH (F := fun W => Brow W g13 31 zs32 ∧ SB w B1 [(g10, s)] g12 CX W) ⟨(by rw [hg13]; exact heap_new _ _), (HS.out.step hb)⟩ ?_
      have hNg13 : B1 ≤ g13 := by have := HS.out.2.2.1; omega
      rintro w29 ⟨ha, hs⟩
      clear hg13 hb hod hoo HS
      have H13 := Lib.hid ha
      have HS := Lib.hid hs
      clear ha hs
      simp only [Act.put, List.setIfInBounds_toArray, List.set_cons_zero, List.set_cons_succ]
      refine wpAnyH_all (rs := [3, 9]) (by kernel_rfl) (by simp) ?_
      intro k hk; simp only [List.mem_cons, List.not_mem_nil, or_false] at hk; rcases hk with rfl | rfl
      · refine op_at 3 (d := some 61) (op := .call { callee := .value (.func 12), args := #[(.tmp 60)], argTypes := #[22] }) (by rfl) ?_
        intro o0 hod hoo
        refine wp_call_fn (R := _) hoo (vs := #[.slice ba k bc]) (by go_simp) (by go_simp) (HU.out w29 HS.out.1) ?_
        rintro e w30 ⟨rfl, hb⟩
        refine ⟨_, rfl, HS.out.step hb, ?_⟩
        rw [hod]
        have H13 := Lib.hid (H13.out.below hb H13.out.lt)
        have HS := Lib.hid (HS.out.step hb)
        clear hod hoo hb
        simp only [Act.put, List.setIfInBounds_toArray, List.set_cons_zero, List.set_cons_succ]
        refine wpAnyH_all (rs := [7, 9]) (by kernel_rfl) (by simp) ?_
        intro k hk; simp only [List.mem_cons, List.not_mem_nil, or_false] at hk; rcases hk with rfl | rfl
        · refine op_at 7 (d := some 65) (op := .call { callee := .value (.func 12), args := #[(.tmp 64)], argTypes := #[22] }) (by rfl) ?_
          intro o0 hod hoo
          refine wp_call_fn (R := _) hoo (vs := #[.slice (sld ba bc k) (n - k) (bc - k)]) (by go_simp) (by go_simp) (HV.out w30 HS.out.1) ?_
          rintro e w31 ⟨rfl, hb⟩
          refine ⟨_, rfl, HS.out.step hb, ?_⟩
          rw [hod]
          have H13 := Lib.hid (H13.out.below hb H13.out.lt)
          have HS := Lib.hid (HS.out.step hb)
          clear hod hoo hb
          simp only [Act.put, List.setIfInBounds_toArray, List.set_cons_zero, List.set_cons_succ]
          refine wpAnyH_all (rs := [9]) (by kernel_rfl) (by simp) ?_
          intro k hk; simp only [List.mem_cons, List.not_mem_nil, or_false] at hk; subst hk
          refine op_at 9 (d := some 14) (op := .alloc 31) (by rfl) ?_
          intro o0 hod hoo
          refine wp_alloc_32 hoo ?_
          have hb : Below w31.heap.size w31 (w31.alloc (.cells (cellsOf zs32).toArray 31)) := (Below.refl _ _).alloc (Nat.le_refl _) _
          refine ⟨HS.out.step hb, ?_⟩
          rw [hod]
          obtain ⟨g14, hg14⟩ : ∃ g, g = w31.heap.size := ⟨_, rfl⟩
          rw [← hg14]
          refine gen_anyH (F := fun W => Brow W g14 31 zs32 ∧ SB w B1 [(g10, s)] g12 CX W ∧ Brow W g13 31 zs32) ⟨(by rw [hg14]; exact heap_new _ _), (HS.out.step hb), (H13.out.below hb H13.out.lt)⟩ ?_
          have hneg13 : g13 ≠ g14 := by have := H13.out.lt; omega
          have hNg14 : B1 ≤ g14 := by have := HS.out.2.2.1; omega
          rintro w32 ⟨ha, hs, hH13⟩
          clear hg14 hb hod hoo HS
          have H14 := Lib.hid ha
          have HS := Lib.hid hs
          have H13 := Lib.hid hH13
          clear ha hs hH13
          simp only [Act.put, List.setIfInBounds_toArray, List.set_cons_zero, List.set_cons_succ]
          have hdd : g13 ≠ g14 := by first | assumption | (intro h; exact absurd h.symm (by assumption))
          refine wpAnyH_all (rs := [10]) (by kernel_rfl) (by simp) ?_
          intro k hk; simp only [List.mem_cons, List.not_mem_nil, or_false] at hk; subst hk
          refine op_at 10 (d := none) (op := .store 31 (.tmp 13) (.tmp 61)) (by rfl) ?_
          intro o0 hod hoo
          refine wp_store_mid 31 (.tmp 13) (.tmp 61) hoo g13 0 (cellsOf U).toArray (by rfl) (by rfl) (H13.out.there _ (by rw [cellsOf_size, HUD.out.1]; first | rfl | exact HUD.out.1.symm | exact HVD.out.1.symm | (rw [cellsOf_size]; first | exact HUD.out.1.symm | exact HVD.out.1.symm))) (info32 dtR HUD.out) (cellsOf_all _) ?_
          rw [hod, List.toList_toArray]
          have ho : Only g13 w32 (w32.setCells g13 0 (cellsOf U)) := Only.setCells (cellsOf U) 0 (Only.refl _ _)
          refine ⟨HS.out.only ho hNg13, ?_⟩
          refine gen_anyH (F := fun W => SB w B1 [(g10, s)] g12 CX W ∧ Brow W g13 31 U ∧ Brow W g14 31 zs32) ⟨HS.out.only ho hNg13, H13.out.setAll (by rw [HUD.out.1]; first | rfl | exact HUD.out.1.symm), H14.out.only ho (Ne.symm hdd)⟩ ?_
          rintro w33 ⟨hs, ha, hb⟩
          clear hod hoo ho HS H13 H14
          have HS := Lib.hid hs
          have H13 := Lib.hid ha
          have H14 := Lib.hid hb
          clear hs ha hb
          simp only [Act.put]
          refine wpAnyH_all (rs := [11]) (by kernel_rfl) (by simp) ?_
          intro k hk; simp only [List.mem_cons, List.not_mem_nil, or_false] at hk; subst hk
          refine op_at 11 (d := none) (op := .store 31 (.tmp 14) (.tmp 65)) (by rfl) ?_
          intro o0 hod hoo
          refine wp_store_mid 31 (.tmp 14) (.tmp 65) hoo g14 0 (cellsOf V).toArray (by rfl) (by rfl) (H14.out.there _ (by rw [cellsOf_size, HVD.out.1]; first | rfl | exact HUD.out.1.symm | exact HVD.out.1.symm | (rw [cellsOf_size]; first | exact HUD.out.1.symm | exact HVD.out.1.symm))) (info32 dtR HVD.out) (cellsOf_all _) ?_
          rw [hod, List.toList_toArray]
          have ho : Only g14 w33 (w33.setCells g14 0 (cellsOf V)) := Only.setCells (cellsOf V) 0 (Only.refl _ _)
          refine ⟨HS.out.only ho hNg14, ?_⟩
          refine gen_anyH (F := fun W => SB w B1 [(g10, s)] g12 CX W ∧ Brow W g13 31 U ∧ Brow W g14 31 V) ⟨HS.out.only ho hNg14, H13.out.only ho hdd, H14.out.setAll (by rw [HVD.out.1]; first | rfl | exact HVD.out.1.symm)⟩ ?_
          intro w34 hf
          have HF := Lib.hid hf
          clear hod hoo ho hf HS H13 H14
          simp only [Act.put]
          refine wpAnyH_done (by kernel_rfl) ?_ _
          go_wp2_with fail
          go_meet
          exact ⟨g13, g14, rfl, rfl, HF⟩
        · refine op_at 9 (d := some 14) (op := .alloc 31) (by rfl) ?_
          intro o0 hod hoo
          refine wp_alloc_32 hoo ?_
          have hb : Below w30.heap.size w30 (w30.alloc (.cells (cellsOf zs32).toArray 31)) := (Below.refl _ _).alloc (Nat.le_refl _) _
          refine ⟨HS.out.step hb, ?_⟩
          rw [hod]
          obtain ⟨g14, hg14⟩ : ∃ g, g = w30.heap.size := ⟨_, rfl⟩
          rw [← hg14]
          refine gen_anyH (F := fun W => Brow W g14 31 zs32 ∧ SB w B1 [(g10, s)] g12 CX W ∧ Brow W g13 31 zs32) ⟨(by rw [hg14]; exact heap_new _ _), (HS.out.step hb), (H13.out.below hb H13.out.lt)⟩ ?_
          have hneg13 : g13 ≠ g14 := by have := H13.out.lt; omega
          have hNg14 : B1 ≤ g14 := by have := HS.out.2.2.1; omega
          rintro w35 ⟨ha, hs, hH13⟩
          clear hg14 hb hod hoo HS
          have H14 := Lib.hid ha
          have HS := Lib.hid hs
          have H13 := Lib.hid hH13
          clear ha hs hH13
          simp only [Act.put, List.setIfInBounds_toArray, List.set_cons_zero, List.set_cons_succ]
          refine wpAnyH_all (rs := [7]) (by kernel_rfl) (by simp) ?_
          intro k hk; simp only [List.mem_cons, List.not_mem_nil, or_false] at hk; subst hk
          refine op_at 7 (d := some 65) (op := .call { callee := .value (.func 12), args := #[(.tmp 64)], argTypes := #[22] }) (by rfl) ?_
          intro o0 hod hoo
          refine wp_call_fn (R := _) hoo (vs := #[.slice (sld ba bc k) (n - k) (bc - k)]) (by go_simp) (by go_simp) (HV.out w35 HS.out.1) ?_
          rintro e w36 ⟨rfl, hb⟩
          refine ⟨_, rfl, HS.out.step hb, ?_⟩
          rw [hod]
          have H13 := Lib.hid (H13.out.below hb H13.out.lt)
          have H14 := Lib.hid (H14.out.below hb H14.out.lt)
          have HS := Lib.hid (HS.out.step hb)
          clear hod hoo hb
          simp only [Act.put, List.setIfInBounds_toArray, List.set_cons_zero, List.set_cons_succ]
          have hdd : g13 ≠ g14 := by first | assumption | (intro h; exact absurd h.symm (by assumption))
          refine wpAnyH_all (rs := [10]) (by kernel_rfl) (by simp) ?_
          intro k hk; simp only [List.mem_cons, List.not_mem_nil, or_false] at hk; subst hk
          refine op_at 10 (d := none) (op := .store 31 (.tmp 13) (.tmp 61)) (by rfl) ?_
          intro o0 hod hoo
          refine wp_store_mid 31 (.tmp 13) (.tmp 61) hoo g13 0 (cellsOf U).toArray (by rfl) (by rfl) (H13.out.there _ (by rw [cellsOf_size, HUD.out.1]; first | rfl | exact HUD.out.1.symm | exact HVD.out.1.symm | (rw [cellsOf_size]; first | exact HUD.out.1.symm | exact HVD.out.1.symm))) (info32 dtR HUD.out) (cellsOf_all _) ?_
          rw [hod, List.toList_toArray]
          have ho : Only g13 w36 (w36.setCells g13 0 (cellsOf U)) := Only.setCells (cellsOf U) 0 (Only.refl _ _)
          refine ⟨HS.out.only ho hNg13, ?_⟩
          refine gen_anyH (F := fun W => SB w B1 [(g10, s)] g12 CX W ∧ Brow W g13 31 U ∧ Brow W g14 31 zs32) ⟨HS.out.only ho hNg13, H13.out.setAll (by rw [HUD.out.1]; first | rfl | exact HUD.out.1.symm), H14.out.only ho (Ne.symm hdd)⟩ ?_
          rintro w37 ⟨hs, ha, hb⟩
          clear hod hoo ho HS H13 H14
          have HS := Lib.hid hs
          have H13 := Lib.hid ha
          have H14 := Lib.hid hb
          clear hs ha hb
          simp only [Act.put]
          refine wpAnyH_all (rs := [11]) (by kernel_rfl) (by simp) ?_
          intro k hk; simp only [List.mem_cons, List.not_mem_nil, or_false] at hk; subst hk
          refine op_at 11 (d := none) (op := .store 31 (.tmp 14) (.tmp 65)) (by rfl) ?_
          intro o0 hod hoo
          refine wp_store_mid 31 (.tmp 14) (.tmp 65) hoo g14 0 (cellsOf V).toArray (by rfl) (by rfl) (H14.out.there _ (by rw [cellsOf_size, HVD.out.1]; first | rfl | exact HUD.out.1.symm | exact HVD.out.1.symm | (rw [cellsOf_size]; first | exact HUD.out.1.symm | exact HVD.out.1.symm))) (info32 dtR HVD.out) (cellsOf_all _) ?_
          rw [hod, List.toList_toArray]
          have ho : Only g14 w37 (w37.setCells g14 0 (cellsOf V)) := Only.setCells (cellsOf V) 0 (Only.refl _ _)
          refine ⟨HS.out.only ho hNg14, ?_⟩
          refine gen_anyH (F := fun W => SB w B1 [(g10, s)] g12 CX W ∧ Brow W g13 31 U ∧ Brow W g14 31 V) ⟨HS.out.only ho hNg14, H13.out.only ho hdd, H14.out.setAll (by rw [HVD.out.1]; first | rfl | exact HVD.out.1.symm)⟩ ?_
          intro w38 hf
          have HF := Lib.hid hf
          clear hod hoo ho hf HS H13 H14
          simp only [Act.put]
          refine wpAnyH_done (by kernel_rfl) ?_ _
          go_wp2_with fail
          go_meet
          exact ⟨g13, g14, rfl, rfl, HF⟩
      · refine op_at 9 (d := some 14) (op := .alloc 31) (by rfl) ?_
        intro o0 hod hoo
        refine wp_alloc_32 hoo ?_
        have hb : Below w29.heap.size w29 (w29.alloc (.cells (cellsOf zs32).toArray 31)) := (Below.refl _ _).alloc (Nat.le_refl _) _
        refine ⟨HS.out.step hb, ?_⟩
        rw [hod]
        obtain ⟨g14, hg14⟩ : ∃ g, g = w29.heap.size := ⟨_, rfl⟩
        rw [← hg14]
        refine gen_anyH (F := fun W => Brow W g14 31 zs32 ∧ SB w B1 [(g10, s)] g12 CX W ∧ Brow W g13 31 zs32) ⟨(by rw [hg14]; exact heap_new _ _), (HS.out.step hb), (H13.out.below hb H13.out.lt)⟩ ?_
        have hneg13 : g13 ≠ g14 := by have := H13.out.lt; omega
        have hNg14 : B1 ≤ g14 := by have := HS.out.2.2.1; omega
        rintro w39 ⟨ha, hs, hH13⟩
        clear hg14 hb hod hoo HS
        have H14 := Lib.hid ha
        have HS := Lib.hid hs
        have H13 := Lib.hid hH13
        clear ha hs hH13
        simp only [Act.put, List.setIfInBounds_toArray, List.set_cons_zero, List.set_cons_succ]
        refine wpAnyH_all (rs := [3]) (by kernel_rfl) (by simp) ?_
        intro k hk; simp only [List.mem_cons, List.not_mem_nil, or_false] at hk; subst hk
        refine op_at 3 (d := some 61) (op := .call { callee := .value (.func 12), args := #[(.tmp 60)], argTypes := #[22] }) (by rfl) ?_
        intro o0 hod hoo
        refine wp_call_fn (R := _) hoo (vs := #[.slice ba k bc]) (by go_simp) (by go_simp) (HU.out w39 HS.out.1) ?_
        rintro e w40 ⟨rfl, hb⟩
        refine ⟨_, rfl, HS.out.step hb, ?_⟩
        rw [hod]
        have H13 := Lib.hid (H13.out.below hb H13.out.lt)
        have H14 := Lib.hid (H14.out.below hb H14.out.lt)
        have HS := Lib.hid (HS.out.step hb)
        clear hod hoo hb
        simp only [Act.put, List.setIfInBounds_toArray, List.set_cons_zero, List.set_cons_succ]
        refine wpAnyH_all (rs := [7]) (by kernel_rfl) (by simp) ?_
        intro k hk; simp only [List.mem_cons, List.not_mem_nil, or_false] at hk; subst hk
        refine op_at 7 (d := some 65) (op := .call { callee := .value (.func 12), args := #[(.tmp 64)], argTypes := #[22] }) (by rfl) ?_
        intro o0 hod hoo
        refine wp_call_fn (R := _) hoo (vs := #[.slice (sld ba bc k) (n - k) (bc - k)]) (by go_simp) (by go_simp) (HV.out w40 HS.out.1) ?_
        rintro e w41 ⟨rfl, hb⟩
        refine ⟨_, rfl, HS.out.step hb, ?_⟩
        rw [hod]
        have H13 := Lib.hid (H13.out.below hb H13.out.lt)
        have H14 := Lib.hid (H14.out.below hb H14.out.lt)
        have HS := Lib.hid (HS.out.step hb)
        clear hod hoo hb
        simp only [Act.put, List.setIfInBounds_toArray, List.set_cons_zero, List.set_cons_succ]
        have hdd : g13 ≠ g14 := by first | assumption | (intro h; exact absurd h.symm (by assumption))
        refine wpAnyH_all (rs := [10]) (by kernel_rfl) (by simp) ?_
        intro k hk; simp only [List.mem_cons, List.not_mem_nil, or_false] at hk; subst hk
        refine op_at 10 (d := none) (op := .store 31 (.tmp 13) (.tmp 61)) (by rfl) ?_
        intro o0 hod hoo
        refine wp_store_mid 31 (.tmp 13) (.tmp 61) hoo g13 0 (cellsOf U).toArray (by rfl) (by rfl) (H13.out.there _ (by rw [cellsOf_size, HUD.out.1]; first | rfl | exact HUD.out.1.symm | exact HVD.out.1.symm | (rw [cellsOf_size]; first | exact HUD.out.1.symm | exact HVD.out.1.symm))) (info32 dtR HUD.out) (cellsOf_all _) ?_
        rw [hod, List.toList_toArray]
        have ho : Only g13 w41 (w41.setCells g13 0 (cellsOf U)) := Only.setCells (cellsOf U) 0 (Only.refl _ _)
        refine ⟨HS.out.only ho hNg13, ?_⟩
        refine gen_anyH (F := fun W => SB w B1 [(g10, s)] g12 CX W ∧ Brow W g13 31 U ∧ Brow W g14 31 zs32) ⟨HS.out.only ho hNg13, H13.out.setAll (by rw [HUD.out.1]; first | rfl | exact HUD.out.1.symm), H14.out.only ho (Ne.symm hdd)⟩ ?_
        rintro w42 ⟨hs, ha, hb⟩
        clear hod hoo ho HS H13 H14
        have HS := Lib.hid hs
        have H13 := Lib.hid ha
        have H14 := Lib.hid hb
        clear hs ha hb
        simp only [Act.put]
        refine wpAnyH_all (rs := [11]) (by kernel_rfl) (by simp) ?_
        intro k hk; simp only [List.mem_cons, List.not_mem_nil, or_false] at hk; subst hk
        refine op_at 11 (d := none) (op := .store 31 (.tmp 14) (.tmp 65)) (by rfl) ?_
        intro o0 hod hoo
        refine wp_store_mid 31 (.tmp 14) (.tmp 65) hoo g14 0 (cellsOf V).toArray (by rfl) (by rfl) (H14.out.there _ (by rw [cellsOf_size, HVD.out.1]; first | rfl | exact HUD.out.1.symm | exact HVD.out.1.symm | (rw [cellsOf_size]; first | exact HUD.out.1.symm | exact HVD.out.1.symm))) (info32 dtR HVD.out) (cellsOf_all _) ?_
        rw [hod, List.toList_toArray]
        have ho : Only g14 w42 (w42.setCells g14 0 (cellsOf V)) := Only.setCells (cellsOf V) 0 (Only.refl _ _)
        refine ⟨HS.out.only ho hNg14, ?_⟩
        refine gen_anyH (F := fun W => SB w B1 [(g10, s)] g12 CX W ∧ Brow W g13 31 U ∧ Brow W g14 31 V) ⟨HS.out.only ho hNg14, H13.out.only ho hdd, H14.out.setAll (by rw [HVD.out.1]; first | rfl | exact HVD.out.1.symm)⟩ ?_
        intro w43 hf
        have HF := Lib.hid hf
        clear hod hoo ho hf HS H13 H14
        simp only [Act.put]
        refine wpAnyH_done (by kernel_rfl) ?_ _
        go_wp2_with fail
        go_meet
        exact ⟨g13, g14, rfl, rfl, HF⟩
    · refine op_at 9 (d := some 14) (op := .alloc 31) (by rfl) ?_
      intro o0 hod hoo
      refine wp_alloc_32 hoo ?_
      have hb : Below w7.drew.heap.size w7.drew (w7.drew.alloc (.cells (cellsOf zs32).toArray 31)) := (Below.refl _ _).alloc (Nat.le_refl _) _
      refine ⟨HS.out.step hb, ?_⟩
      rw [hod]
      obtain ⟨g14, hg14⟩ : ∃ g, g = w7.drew.heap.size := ⟨_, rfl⟩
      rw [← hg14]
      refine gen_anyH (F := fun W => Brow W g14 31 zs32 ∧ SB w B1 [(g10, s)] g12 CX W) ⟨(by rw [hg14]; exact heap_new _ _), (HS.out.step hb)⟩ ?_
      have hNg14 : B1 ≤ g14 := by have := HS.out.2.2.1; omega
      rintro w44 ⟨ha, hs⟩
      clear hg14 hb hod hoo HS
      have H14 := Lib.hid ha
      have HS := Lib.hid hs
      clear ha hs
      simp only [Act.put, List.setIfInBounds_toArray, List.set_cons_zero, List.set_cons_succ]
      refine wpAnyH_all (rs := [3, 8]) (by kernel_rfl) (by simp) ?_
      intro k hk; simp only [List.mem_cons, List.not_mem_nil, or_false] at hk; rcases hk with rfl | rfl
      · refine op_at 3 (d := some 61) (op := .call { callee := .value (.func 12), args := #[(.tmp 60)], argTypes := #[22] }) (by rfl) ?_
        intro o0 hod hoo
        refine wp_call_fn (R := _) hoo (vs := #[.slice ba k bc]) (by go_simp) (by go_simp) (HU.out w44 HS.out.1) ?_
        rintro e w45 ⟨rfl, hb⟩
        refine ⟨_, rfl, HS.out.step hb, ?_⟩
        rw [hod]
        have H14 := Lib.hid (H14.out.below hb H14.out.lt)
        have HS := Lib.hid (HS.out.step hb)
        clear hod hoo hb
        simp only [Act.put, List.setIfInBounds_toArray, List.set_cons_zero, List.set_cons_succ]
        refine wpAnyH_all (rs := [7, 8]) (by kernel_rfl) (by simp) ?_
        intro k hk; simp only [List.mem_cons, List.not_mem_nil, or_false] at hk; rcases hk with rfl | rfl
        · refine op_at 7 (d := some 65) (op := .call { callee := .value (.func 12), args := #[(.tmp 64)], argTypes := #[22] }) (by rfl) ?_
          intro o0 hod hoo
          refine wp_call_fn (R := _) hoo (vs := #[.slice (sld ba bc k) (n - k) (bc - k)]) (by go_simp) (by go_simp) (HV.out w45 HS.out.1) ?_
          rintro e w46 ⟨rfl, hb⟩
          refine ⟨_, rfl, HS.out.step hb, ?_⟩
          rw [hod]
          have H14 := Lib.hid (H14.out.below hb H14.out.lt)
          have HS := Lib.hid (HS.out.step hb)
          clear hod hoo hb
          simp only [Act.put, List.setIfInBounds_toArray, List.set_cons_zero, List.set_cons_succ]
          refine wpAnyH_all (rs := [8]) (by kernel_rfl) (by simp) ?_
          intro k hk; simp only [List.mem_cons, List.not_mem_nil, or_false] at hk; subst hk
          refine op_at 8 (d := some 13) (op := .alloc 31) (by rfl) ?_
          intro o0 hod hoo
          refine wp_alloc_32 hoo ?_
          have hb : Below w46.heap.size w46 (w46.alloc (.cells (cellsOf zs32).toArray 31)) := (Below.refl _ _).alloc (Nat.le_refl _) _
          refine ⟨HS.out.step hb, ?_⟩
          rw [hod]
          obtain ⟨g13, hg13⟩ : ∃ g, g = w46.heap.size := ⟨_, rfl⟩
          rw [← hg13]
          refine gen_anyH (F := fun W => Brow W g13 31 zs32 ∧ SB w B1 [(g10, s)] g12 CX W ∧ Brow W g14 31 zs32) ⟨(by rw [hg13]; exact heap_new _ _), (HS.out.step hb), (H14.out.below hb H14.out.lt)⟩ ?_
          have hneg14 : g14 ≠ g13 := by have := H14.out.lt; omega
          have hNg13 : B1 ≤ g13 := by have := HS.out.2.2.1; omega
          rintro w47 ⟨ha, hs, hH14⟩
          clear hg13 hb hod hoo HS
          have H13 := Lib.hid ha
          have HS := Lib.hid hs
          have H14 := Lib.hid hH14
          clear ha hs hH14
          simp only [Act.put, List.setIfInBounds_toArray, List.set_cons_zero, List.set_cons_succ]
          have hdd : g13 ≠ g14 := by first | assumption | (intro h; exact absurd h.symm (by assumption))
          refine wpAnyH_all (rs := [10]) (by kernel_rfl) (by simp) ?_
          intro k hk; simp only [List.mem_cons, List.not_mem_nil, or_false] at hk; subst hk
          refine op_at 10 (d := none) (op := .store 31 (.tmp 13) (.tmp 61)) (by rfl) ?_
          intro o0 hod hoo
          refine wp_store_mid 31 (.tmp 13) (.tmp 61) hoo g13 0 (cellsOf U).toArray (by rfl) (by rfl) (H13.out.there _ (by rw [cellsOf_size, HUD.out.1]; first | rfl | exact HUD.out.1.symm | exact HVD.out.1.symm | (rw [cellsOf_size]; first | exact HUD.out.1.symm | exact HVD.out.1.symm))) (info32 dtR HUD.out) (cellsOf_all _) ?_
          rw [hod, List.toList_toArray]
          have ho : Only g13 w47 (w47.setCells g13 0 (cellsOf U)) := Only.setCells (cellsOf U) 0 (Only.refl _ _)
          refine ⟨HS.out.only ho hNg13, ?_⟩
          refine gen_anyH (F := fun W => SB w B1 [(g10, s)] g12 CX W ∧ Brow W g13 31 U ∧ Brow W g14 31 zs32) ⟨HS.out.only ho hNg13, H13.out.setAll (by rw [HUD.out.1]; first | rfl | exact HUD.out.1.symm), H14.out.only ho (Ne.symm hdd)⟩ ?_
          rintro w48 ⟨hs, ha, hb⟩
          clear hod hoo ho HS H13 H14
          have HS := Lib.hid hs
          have H13 := Lib.hid ha
          have H14 := Lib.hid hb
          clear hs ha hb
          simp only [Act.put]
          refine wpAnyH_all (rs := [11]) (by kernel_rfl) (by simp) ?_
          intro k hk; simp only [List.mem_cons, List.not_mem_nil, or_false] at hk; subst hk
          refine op_at 11 (d := none) (op := .store 31 (.tmp 14) (.tmp 65)) (by rfl) ?_
          intro o0 hod hoo
          refine wp_store_mid 31 (.tmp 14) (.tmp 65) hoo g14 0 (cellsOf V).toArray (by rfl) (by rfl) (H14.out.there _ (by rw [cellsOf_size, HVD.out.1]; first | rfl | exact HUD.out.1.symm | exact HVD.out.1.symm | (rw [cellsOf_size]; first | exact HUD.out.1.symm | exact HVD.out.1.symm))) (info32 dtR HVD.out) (cellsOf_all _) ?_
          rw [hod, List.toList_toArray]
          have ho : Only g14 w48 (w48.setCells g14 0 (cellsOf V)) := Only.setCells (cellsOf V) 0 (Only.refl _ _)
          refine ⟨HS.out.only ho hNg14, ?_⟩
          refine gen_anyH (F := fun W => SB w B1 [(g10, s)] g12 CX W ∧ Brow W g13 31 U ∧ Brow W g14 31 V) ⟨HS.out.only ho hNg14, H13.out.only ho hdd, H14.out.setAll (by rw [HVD.out.1]; first | rfl | exact HVD.out.1.symm)⟩ ?_
          intro w49 hf
          have HF := Lib.hid hf
          clear hod hoo ho hf HS H13 H14
          simp only [Act.put]
          refine wpAnyH_done (by kernel_rfl) ?_ _
          go_wp2_with fail
          go_meet
          exact ⟨g13, g14, rfl, rfl, HF⟩
        · refine op_at 8 (d := some 13) (op := .alloc 31) (by rfl) ?_
          intro o0 hod hoo
          refine wp_alloc_32 hoo ?_
          have hb : Below w45.heap.size w45 (w45.alloc (.cells (cellsOf zs32).toArray 31)) := (Below.refl _ _).alloc (Nat.le_refl _) _
          refine ⟨HS.out.step hb, ?_⟩
          rw [hod]
          obtain ⟨g13, hg13⟩ : ∃ g, g = w45.heap.size := ⟨_, rfl⟩
          rw [← hg13]
          refine gen_anyH (F := fun W => Brow W g13 31 zs32 ∧ SB w B1 [(g10, s)] g12 CX W ∧ Brow W g14 31 zs32) ⟨(by rw [hg13]; exact heap_new _ _), (HS.out.step hb), (H14.out.below hb H14.out.lt)⟩ ?_
          have hneg14 : g14 ≠ g13 := by have := H14.out.lt; omega
          have hNg13 : B1 ≤ g13 := by have := HS.out.2.2.1; omega
          rintro w50 ⟨ha, hs, hH14⟩
          clear hg13 hb hod hoo HS
          have H13 := Lib.hid ha
          have HS := Lib.hid hs
          have H14 := Lib.hid hH14
          clear ha hs hH14
          simp only [Act.put, List.setIfInBounds_toArray, List.set_cons_zero, List.set_cons_succ]
          refine wpAnyH_all (rs := [7]) (by kernel_rfl) (by simp) ?_
          intro k hk; simp only [List.mem_cons, List.not_mem_nil, or_false] at hk; subst hk
          refine op_at 7 (d := some 65) (op := .call { callee := .value (.func 12), args := #[(.tmp 64)], argTypes := #[22] }) (by rfl) ?_
          intro o0 hod hoo
          refine wp_call_fn (R := _) hoo (vs := #[.slice (sld ba bc k) (n - k) (bc - k)]) (by go_simp) (by go_simp) (HV.out w50 HS.out.1) ?_
          rintro e w51 ⟨rfl, hb⟩
          refine ⟨_, rfl, HS.out.step hb, ?_⟩
          rw [hod]
          have H13 := Lib.hid (H13.out.below hb H13.out.lt)
          have H14 := Lib.hid (H14.out.below hb H14.out.lt)
          have HS := Lib.hid (HS.out.step hb)
          clear hod hoo hb
          simp only [Act.put, List.setIfInBounds_toArray, List.set_cons_zero, List.set_cons_succ]
          have hdd : g13 ≠ g14 := by first | assumption | (intro h; exact absurd h.symm (by assumption))
          refine wpAnyH_all (rs := [10]) (by kernel_rfl) (by simp) ?_
          intro k hk; simp only [List.mem_cons, List.not_mem_nil, or_false] at hk; subst hk
          refine op_at 10 (d := none) (op := .store 31 (.tmp 13) (.tmp 61)) (by rfl) ?_
          intro o0 hod hoo
          refine wp_store_mid 31 (.tmp 13) (.tmp 61) hoo g13 0 (cellsOf U).toArray (by rfl) (by rfl) (H13.out.there _ (by rw [cellsOf_size, HUD.out.1]; first | rfl | exact HUD.out.1.symm | exact HVD.out.1.symm | (rw [cellsOf_size]; first | exact HUD.out.1.symm | exact HVD.out.1.symm))) (info32 dtR HUD.out) (cellsOf_all _) ?_
          rw [hod, List.toList_toArray]
          have ho : Only g13 w51 (w51.setCells g13 0 (cellsOf U)) := Only.setCells (cellsOf U) 0 (Only.refl _ _)
          refine ⟨HS.out.only ho hNg13, ?_⟩
          refine gen_anyH (F := fun W => SB w B1 [(g10, s)] g12 CX W ∧ Brow W g13 31 U ∧ Brow W g14 31 zs32) ⟨HS.out.only ho hNg13, H13.out.setAll (by rw [HUD.out.1]; first | rfl | exact HUD.out.1.symm), H14.out.only ho (Ne.symm hdd)⟩ ?_
          rintro w52 ⟨hs, ha, hb⟩
          clear hod hoo ho HS H13 H14
          have HS := Lib.hid hs
          have H13 := Lib.hid ha
          have H14 := Lib.hid hb
          clear hs ha hb
          simp only [Act.put]
          refine wpAnyH_all (rs := [11]) (by kernel_rfl) (by simp) ?_
          intro k hk; simp only [List.mem_cons, List.not_mem_nil, or_false] at hk; subst hk
          refine op_at 11 (d := none) (op := .store 31 (.tmp 14) (.tmp 65)) (by rfl) ?_
          intro o0 hod hoo
          refine wp_store_mid 31 (.tmp 14) (.tmp 65) hoo g14 0 (cellsOf V).toArray (by rfl) (by rfl) (H14.out.there _ (by rw [cellsOf_size, HVD.out.1]; first | rfl | exact HUD.out.1.symm | exact HVD.out.1.symm | (rw [cellsOf_size]; first | exact HUD.out.1.symm | exact HVD.out.1.symm))) (info32 dtR HVD.out) (cellsOf_all _) ?_
          rw [hod, List.toList_toArray]
          have ho : Only g14 w52 (w52.setCells g14 0 (cellsOf V)) := Only.setCells (cellsOf V) 0 (Only.refl _ _)
          refine ⟨HS.out.only ho hNg14, ?_⟩
          refine gen_anyH (F := fun W => SB w B1 [(g10, s)] g12 CX W ∧ Brow W g13 31 U ∧ Brow W g14 31 V) ⟨HS.out.only ho hNg14, H13.out.only ho hdd, H14.out.setAll (by rw [HVD.out.1]; first | rfl | exact HVD.out.1.symm)⟩ ?_
          intro w53 hf
          have HF := Lib.hid hf
          clear hod hoo ho hf HS H13 H14
          simp only [Act.put]
          refine wpAnyH_done (by kernel_rfl) ?_ _
          go_wp2_with fail
          go_meet
          exact ⟨g13, g14, rfl, rfl, HF⟩
      · refine op_at 8 (d := some 13) (op := .alloc 31) (by rfl) ?_
        intro o0 hod hoo
        refine wp_alloc_32 hoo ?_
        have hb : Below w44.heap.size w44 (w44.alloc (.cells (cellsOf zs32).toArray 31)) := (Below.refl _ _).alloc (Nat.le_refl _) _
        refine ⟨HS.out.step hb, ?_⟩
        rw [hod]
        obtain ⟨g13, hg13⟩ : ∃ g, g = w44.heap.size := ⟨_, rfl⟩
        rw [← hg13]
        refine gen_anyH (F := fun W => Brow W g13 31 zs32 ∧ SB w B1 [(g10, s)] g12 CX W ∧ Brow W g14 31 zs32) ⟨(by rw [hg13]; exact heap_new _ _), (HS.out.step hb), (H14.out.below hb H14.out.lt)⟩ ?_
        have hneg14 : g14 ≠ g13 := by have := H14.out.lt; omega
        have hNg13 : B1 ≤ g13 := by have := HS.out.2.2.1; omega
        rintro w54 ⟨ha, hs, hH14⟩
        clear hg13 hb hod hoo HS
        have H13 := Lib.hid ha
        have HS := Lib.hid hs
        have H14 := Lib.hid hH14
        clear ha hs hH14
        simp only [Act.put, List.setIfInBounds_toArray, List.set_cons_zero, List.set_cons_succ]
        refine wpAnyH_all (rs := [3]) (by kernel_rfl) (by simp) ?_
        intro k hk; simp only [List.mem_cons, List.not_mem_nil, or_false] at hk; subst hk
        refine op_at 3 (d := some 61) (op := .call { callee := .value (.func 12), args := #[(.tmp 60)], argTypes := #[22] }) (by rfl) ?_
        intro o0 hod hoo
        refine wp_call_fn (R := _) hoo (vs := #[.slice ba k bc]) (by go_simp) (by go_simp) (HU.out w54 HS.out.1) ?_
        rintro e w55 ⟨rfl, hb⟩
        refine ⟨_, rfl, HS.out.step hb, ?_⟩
        rw [hod]
        have H13 := Lib.hid (H13.out.below hb H13.out.lt)
        have H14 := Lib.hid (H14.out.below hb H14.out.lt)
        have HS := Lib.hid (HS.out.step hb)
        clear hod hoo hb
        simp only [Act.put, List.setIfInBounds_toArray, List.set_cons_zero, List.set_cons_succ]
        refine wpAnyH_all (rs := [7]) (by kernel_rfl) (by simp) ?_
        intro k hk; simp only [List.mem_cons, List.not_mem_nil, or_false] at hk; subst hk
        refine op_at 7 (d := some 65) (op := .call { callee := .value (.func 12), args := #[(.tmp 64)], argTypes := #[22] }) (by rfl) ?_
        intro o0 hod hoo
        refine wp_call_fn (R := _) hoo (vs := #[.slice (sld ba bc k) (n - k) (bc - k)]) (by go_simp) (by go_simp) (HV.out w55 HS.out.1) ?_
        rintro e w56 ⟨rfl, hb⟩
        refine ⟨_, rfl, HS.out.step hb, ?_⟩
        rw [hod]
        have H13 := Lib.hid (H13.out.below hb H13.out.lt)
        have H14 := Lib.hid (H14.out.below hb H14.out.lt)
        have HS := Lib.hid (HS.out.step hb)
        clear hod hoo hb
        simp only [Act.put, List.setIfInBounds_toArray, List.set_cons_zero, List.set_cons_succ]
        have hdd : g13 ≠ g14 := by first | assumption | (intro h; exact absurd h.symm (by assumption))
        refine wpAnyH_all (rs := [10]) (by kernel_rfl) (by simp) ?_
        intro k hk; simp only [List.mem_cons, List.not_mem_nil, or_false] at hk; subst hk
        refine op_at 10 (d := none) (op := .store 31 (.tmp 13) (.tmp 61)) (by rfl) ?_
        intro o0 hod hoo
        refine wp_store_mid 31 (.tmp 13) (.tmp 61) hoo g13 0 (cellsOf U).toArray (by rfl) (by rfl) (H13.out.there _ (by rw [cellsOf_size, HUD.out.1]; first | rfl | exact HUD.out.1.symm | exact HVD.out.1.symm | (rw [cellsOf_size]; first | exact HUD.out.1.symm | exact HVD.out.1.symm))) (info32 dtR HUD.out) (cellsOf_all _) ?_
        rw [hod, List.toList_toArray]
        have ho : Only g13 w56 (w56.setCells g13 0 (cellsOf U)) := Only.setCells (cellsOf U) 0 (Only.refl _ _)
        refine ⟨HS.out.only ho hNg13, ?_⟩
        refine gen_anyH (F := fun W => SB w B1 [(g10, s)] g12 CX W ∧ Brow W g13 31 U ∧ Brow W g14 31 zs32) ⟨HS.out.only ho hNg13, H13.out.setAll (by rw [HUD.out.1]; first | rfl | exact HUD.out.1.symm), H14.out.only ho (Ne.symm hdd)⟩ ?_
        rintro w57 ⟨hs, ha, hb⟩
        clear hod hoo ho HS H13 H14
        have HS := Lib.hid hs
        have H13 := Lib.hid ha
        have H14 := Lib.hid hb
        clear hs ha hb
        simp only [Act.put]
        refine wpAnyH_all (rs := [11]) (by kernel_rfl) (by simp) ?_
        intro k hk; simp only [List.mem_cons, List.not_mem_nil, or_false] at hk; subst hk
        refine op_at 11 (d := none) (op := .store 31 (.tmp 14) (.tmp 65)) (by rfl) ?_
        intro o0 hod hoo
        refine wp_store_mid 31 (.tmp 14) (.tmp 65) hoo g14 0 (cellsOf V).toArray (by rfl) (by rfl) (H14.out.there _ (by rw [cellsOf_size, HVD.out.1]; first | rfl | exact HUD.out.1.symm | exact HVD.out.1.symm | (rw [cellsOf_size]; first | exact HUD.out.1.symm | exact HVD.out.1.symm))) (info32 dtR HVD.out) (cellsOf_all _) ?_
        rw [hod, List.toList_toArray]
        have ho : Only g14 w57 (w57.setCells g14 0 (cellsOf V)) := Only.setCells (cellsOf V) 0 (Only.refl _ _)
        refine ⟨HS.out.only ho hNg14, ?_⟩
        refine gen_anyH (F := fun W => SB w B1 [(g10, s)] g12 CX W ∧ Brow W g13 31 U ∧ Brow W g14 31 V) ⟨HS.out.only ho hNg14, H13.out.only ho hdd, H14.out.setAll (by rw [HVD.out.1]; first | rfl | exact HVD.out.1.symm)⟩ ?_
        intro w58 hf
        have HF := Lib.hid hf
        clear hod hoo ho hf HS H13 H14
        simp only [Act.put]
        refine wpAnyH_done (by kernel_rfl) ?_ _
        go_wp2_with fail
        go_meet
        exact ⟨g13, g14, rfl, rfl, HF⟩
  case rest =>
    obtain ⟨g13, g14, rfl, rfl, HF⟩ := hcut
    clear HS HU HV
    have HS := Lib.hid (HF.out.1.more HF.out.2.1 HF.out.2.2)
    obtain ⟨B6, hB6⟩ : ∃ B, B = wc.heap.size := ⟨_, rfl⟩
    rw [← hB6] at HS
    clear hB6 HF
    have HL13 := Lib.hid (fun W (hW : SB w B6 [(g13, U), (g14, V), (g10, s)] g12 CX W) => run_dload dtR W g13 0 U HUD.out ((hW.2.1 (g13, U) (by simp)).2).range)
    have HL14 := Lib.hid (fun W (hW : SB w B6 [(g13, U), (g14, V), (g10, s)] g12 CX W) => run_dload dtR W g14 0 V HVD.out ((hW.2.1 (g14, V) (by simp)).2).range)
    have HL10 := Lib.hid (fun W (hW : SB w B6 [(g13, U), (g14, V), (g10, s)] g12 CX W) => run_dload dtR W g10 0 s HSD.out ((hW.2.1 (g10, s) (by simp)).2).range)
    have HLYs := Lib.hid (fun W (hW : SB w B6 [(g13, U), (g14, V), (g10, s)] g12 CX W) => HLY.out W hW.2.2.2.2.2)
    by_cases e1 : Y = U
    · rw [decide_eq_true e1] at HQ1
      by_cases e2 : s = V
      · rw [decide_eq_true e2] at HQ2
        have HREC := Lib.hid (HREC.out e1)
        clear e1 e2 HR HNEQ
        go_wp2_with (first | (refine wpList_loadg 31 (.tmp 66) (by rfl) (by rfl) (.pointer (some ⟨g12, 32, none⟩)) (by rfl) (.agg (cellsOf Y).toArray) (HLYs.out _ HS.out) ?_) | (refine wpList_loadg 31 (.tmp 13) (by rfl) (by rfl) (.pointer (some ⟨g13, 0, none⟩)) (by rfl) (.agg (cellsOf U).toArray) (HL13.out _ HS.out) ?_) | (refine wpList_loadg 31 (.tmp 10) (by rfl) (by rfl) (.pointer (some ⟨g10, 0, none⟩)) (by rfl) (.agg (cellsOf s).toArray) (HL10.out _ HS.out) ?_) | (refine wpList_loadg 31 (.tmp 14) (by rfl) (by rfl) (.pointer (some ⟨g14, 0, none⟩)) (by rfl) (.agg (cellsOf V).toArray) (HL14.out _ HS.out) ?_) | (refine wpList_neqg 31 _ (.tmp 67) (.tmp 68) (by rfl) (by rfl) (cellsOf Y).toArray (cellsOf U).toArray (by rfl) (by rfl) HGT.out _ (HQ1.out _) ?_) | (refine wpList_neqg 31 _ (.tmp 71) (.tmp 72) (by rfl) (by rfl) (cellsOf s).toArray (cellsOf V).toArray (by rfl) (by rfl) HGT.out _ (HQ2.out _) ?_))
        refine (HREC.out _ HS.out.1).mono ?_
        rintro e w9 ⟨rfl, hb9⟩
        have HE := Lib.hid (HS.out.1.trans (hb9.mono HS.out.1.size))
        go_wp2
        go_ret
        exact ⟨rfl, HE.out⟩
      · rw [decide_eq_false e2] at HQ2
        have HNEQ := Lib.hid (HNEQ.out (.inr e2))
        clear e1 e2 HREC
        go_wp2_with (first | (refine wpList_loadg 31 (.tmp 66) (by rfl) (by rfl) (.pointer (some ⟨g12, 32, none⟩)) (by rfl) (.agg (cellsOf Y).toArray) (HLYs.out _ HS.out) ?_) | (refine wpList_loadg 31 (.tmp 13) (by rfl) (by rfl) (.pointer (some ⟨g13, 0, none⟩)) (by rfl) (.agg (cellsOf U).toArray) (HL13.out _ HS.out) ?_) | (refine wpList_loadg 31 (.tmp 10) (by rfl) (by rfl) (.pointer (some ⟨g10, 0, none⟩)) (by rfl) (.agg (cellsOf s).toArray) (HL10.out _ HS.out) ?_) | (refine wpList_loadg 31 (.tmp 14) (by rfl) (by rfl) (.pointer (some ⟨g14, 0, none⟩)) (by rfl) (.agg (cellsOf V).toArray) (HL14.out _ HS.out) ?_) | (refine wpList_neqg 31 _ (.tmp 67) (.tmp 68) (by rfl) (by rfl) (cellsOf Y).toArray (cellsOf U).toArray (by rfl) (by rfl) HGT.out _ (HQ1.out _) ?_) | (refine wpList_neqg 31 _ (.tmp 71) (.tmp 72) (by rfl) (by rfl) (cellsOf s).toArray (cellsOf V).toArray (by rfl) (by rfl) HGT.out _ (HQ2.out _) ?_))
        (try dsimp only [Act.put, List.setIfInBounds_toArray, List.set_cons_zero, List.set_cons_succ])
        have HS := Lib.hid HS.out.drew
        refine anyH_begin (S := SB w B6 [(g13, U), (g14, V), (g10, s)] g12 CX) (by kernel_rfl) ?_
        refine anyH_pureG 0 (d := 75) (op := .fieldAddr 70 (.tmp 12) 1) (gd := none) (.pointer (some ⟨g12, 32, none⟩)) (by rfl) (fun o ho => wanted_plain ho _) (by kernel_rfl) (by kernel_rfl) (by kernel_rfl) (fun _ _ _ h => h) (fun o ho W hW => by unfold execOp; simp only [ho]; go_simp) HS.out ?_
        simp only [Act.put, List.setIfInBounds_toArray, List.set_cons_zero, List.set_cons_succ]
        refine anyH_loadG 1 (d := 76) (ty := 31) (x := (.tmp 75)) (gd := none) (p := .pointer (some ⟨g12, 32, none⟩)) (.agg (cellsOf Y).toArray) (by rfl) (fun o ho => wanted_plain ho _) (by kernel_rfl) (by kernel_rfl) (by kernel_rfl) (fun _ _ _ h => h) (by rfl) HLYs.out HS.out ?_
        simp only [Act.put, List.setIfInBounds_toArray, List.set_cons_zero, List.set_cons_succ]
        refine anyH_loadG 2 (d := 77) (ty := 31) (x := (.tmp 10)) (gd := none) (p := .pointer (some ⟨g10, 0, none⟩)) (.agg (cellsOf s).toArray) (by rfl) (fun o ho => wanted_plain ho _) (by kernel_rfl) (by kernel_rfl) (by kernel_rfl) (fun _ _ _ h => h) (by rfl) HL10.out HS.out ?_
        simp only [Act.put, List.setIfInBounds_toArray, List.set_cons_zero, List.set_cons_succ]
        refine anyH_loadG 4 (d := 79) (ty := 31) (x := (.tmp 13)) (gd := none) (p := .pointer (some ⟨g13, 0, none⟩)) (.agg (cellsOf U).toArray) (by rfl) (fun o ho => wanted_plain ho _) (by kernel_rfl) (by kernel_rfl) (by kernel_rfl) (fun _ _ _ h => h) (by rfl) HL13.out HS.out ?_
        simp only [Act.put, List.setIfInBounds_toArray, List.set_cons_zero, List.set_cons_succ]
        refine anyH_loadG 5 (d := 80) (ty := 31) (x := (.tmp 14)) (gd := none) (p := .pointer (some ⟨g14, 0, none⟩)) (.agg (cellsOf V).toArray) (by rfl) (fun o ho => wanted_plain ho _) (by kernel_rfl) (by kernel_rfl) (by kernel_rfl) (fun _ _ _ h => h) (by rfl) HL14.out HS.out ?_
        simp only [Act.put, List.setIfInBounds_toArray, List.set_cons_zero, List.set_cons_succ]
        refine anyH_callG 3 (d := some 78) (f := 32) (xs := #[(.tmp 76), (.tmp 77)]) (ts := #[31, 31]) (gd := none) (vs := #[.agg (cellsOf Y).toArray, .agg (cellsOf s).toArray]) (by kernel_rfl) (by rfl) (fun o ho => wanted_plain ho _) (by go_simp) (by go_simp) (pairR_c Y s _ HYD.out HSD.out) ?_
        rintro e81 w81 ⟨p1, q1, rfl, hrd81, hb81⟩
        refine ⟨_, rfl, HS.out.step hb81, fun hS81 => ?_⟩
        have HS := Lib.hid hS81
        have HP1 := Lib.hid hrd81
        clear hS81 hb81 hrd81
        simp only [Act.put, List.setIfInBounds_toArray, List.set_cons_zero, List.set_cons_succ]
        refine anyH_callG 6 (d := some 81) (f := 32) (xs := #[(.tmp 79), (.tmp 80)]) (ts := #[31, 31]) (gd := none) (vs := #[.agg (cellsOf U).toArray, .agg (cellsOf V).toArray]) (by kernel_rfl) (by rfl) (fun o ho => wanted_plain ho _) (by go_simp) (by go_simp) (pairR_c U V _ HUD.out HVD.out) ?_
        rintro e82 w82 ⟨p2, q2, rfl, hrd82, hb82⟩
        refine ⟨_, rfl, HS.out.step hb82, fun hS82 => ?_⟩
        have HS := Lib.hid hS82
        have HP2 := Lib.hid hrd82
        have HP1 := Lib.hid (HP1.out.below hb82)
        clear hS82 hb82 hrd82
        simp only [Act.put, List.setIfInBounds_toArray, List.set_cons_zero, List.set_cons_succ]
        refine anyH_callG 7 (d := some 82) (f := 37) (xs := #[(.tmp 78), (.tmp 81)]) (ts := #[64, 64]) (gd := none) (vs := #[.slice p1 65 q1, .slice p2 65 q2]) (by kernel_rfl) (by rfl) (fun o ho => wanted_plain ho _) (by go_simp) (by go_simp) (apart_c p1 p2 65 q1 q2 _ _ _ HP1.out HP2.out HR.out HNEQ.out (by omega)) ?_
        rintro e83 w83 ⟨rfl, hb83⟩
        refine ⟨_, rfl, HS.out.step hb83, fun hS83 => ?_⟩
        have HS := Lib.hid hS83
        clear hS83 hb83
        simp only [Act.put, List.setIfInBounds_toArray, List.set_cons_zero, List.set_cons_succ]
        refine anyH_pureG 8 (d := 8) (op := .assign (.tmp 82)) (gd := none) (.bool true) (by rfl) (fun o ho => wanted_plain ho _) (by kernel_rfl) (by kernel_rfl) (by kernel_rfl) (fun _ _ _ h => h) (fun o ho W hW => by unfold execOp; simp only [ho]; go_simp) HS.out ?_
        simp only [Act.put, List.setIfInBounds_toArray, List.set_cons_zero, List.set_cons_succ]
        refine wpAnyH_done (by kernel_rfl) ?_ _
        go_wp2
        go_ret
        exact ⟨rfl, HS.out.1⟩
    · rw [decide_eq_false e1] at HQ1
      have HNEQ := Lib.hid (HNEQ.out (.inl e1))
      clear e1 HREC
      go_wp2_with (first | (refine wpList_loadg 31 (.tmp 66) (by rfl) (by rfl) (.pointer (some ⟨g12, 32, none⟩)) (by rfl) (.agg (cellsOf Y).toArray) (HLYs.out _ HS.out) ?_) | (refine wpList_loadg 31 (.tmp 13) (by rfl) (by rfl) (.pointer (some ⟨g13, 0, none⟩)) (by rfl) (.agg (cellsOf U).toArray) (HL13.out _ HS.out) ?_) | (refine wpList_loadg 31 (.tmp 10) (by rfl) (by rfl) (.pointer (some ⟨g10, 0, none⟩)) (by rfl) (.agg (cellsOf s).toArray) (HL10.out _ HS.out) ?_) | (refine wpList_loadg 31 (.tmp 14) (by rfl) (by rfl) (.pointer (some ⟨g14, 0, none⟩)) (by rfl) (.agg (cellsOf V).toArray) (HL14.out _ HS.out) ?_) | (refine wpList_neqg 31 _ (.tmp 67) (.tmp 68) (by rfl) (by rfl) (cellsOf Y).toArray (cellsOf U).toArray (by rfl) (by rfl) HGT.out _ (HQ1.out _) ?_) | (refine wpList_neqg 31 _ (.tmp 71) (.tmp 72) (by rfl) (by rfl) (cellsOf s).toArray (cellsOf V).toArray (by rfl) (by rfl) HGT.out _ (HQ2.out _) ?_))
      (try dsimp only [Act.put, List.setIfInBounds_toArray, List.set_cons_zero, List.set_cons_succ])
      have HS := Lib.hid HS.out.drew
      refine anyH_begin (S := SB w B6 [(g13, U), (g14, V), (g10, s)] g12 CX) (by kernel_rfl) ?_
      refine anyH_pureG 0 (d := 75) (op := .fieldAddr 70 (.tmp 12) 1) (gd := none) (.pointer (some ⟨g12, 32, none⟩)) (by rfl) (fun o ho => wanted_plain ho _) (by kernel_rfl) (by kernel_rfl) (by kernel_rfl) (fun _ _ _ h => h) (fun o ho W hW => by unfold execOp; simp only [ho]; go_simp) HS.out ?_
      simp only [Act.put, List.setIfInBounds_toArray, List.set_cons_zero, List.set_cons_succ]
      refine anyH_loadG 1 (d := 76) (ty := 31) (x := (.tmp 75)) (gd := none) (p := .pointer (some ⟨g12, 32, none⟩)) (.agg (cellsOf Y).toArray) (by rfl) (fun o ho => wanted_plain ho _) (by kernel_rfl) (by kernel_rfl) (by kernel_rfl) (fun _ _ _ h => h) (by rfl) HLYs.out HS.out ?_
      simp only [Act.put, List.setIfInBounds_toArray, List.set_cons_zero, List.set_cons_succ]
      refine anyH_loadG 2 (d := 77) (ty := 31) (x := (.tmp 10)) (gd := none) (p := .pointer (some ⟨g10, 0, none⟩)) (.agg (cellsOf s).toArray) (by rfl) (fun o ho => wanted_plain ho _) (by kernel_rfl) (by kernel_rfl) (by kernel_rfl) (fun _ _ _ h => h) (by rfl) HL10.out HS.out ?_
      simp only [Act.put, List.setIfInBounds_toArray, List.set_cons_zero, List.set_cons_succ]
      refine anyH_loadG 4 (d := 79) (ty := 31) (x := (.tmp 13)) (gd := none) (p := .pointer (some ⟨g13, 0, none⟩)) (.agg (cellsOf U).toArray) (by rfl) (fun o ho => wanted_plain ho _) (by kernel_rfl) (by kernel_rfl) (by kernel_rfl) (fun _ _ _ h => h) (by rfl) HL13.out HS.out ?_
      simp only [Act.put, List.setIfInBounds_toArray, List.set_cons_zero, List.set_cons_succ]
      refine anyH_loadG 5 (d := 80) (ty := 31) (x := (.tmp 14)) (gd := none) (p := .pointer (some ⟨g14, 0, none⟩)) (.agg (cellsOf V).toArray) (by rfl) (fun o ho => wanted_plain ho _) (by kernel_rfl) (by kernel_rfl) (by kernel_rfl) (fun _ _ _ h => h) (by rfl) HL14.out HS.out ?_
      simp only [Act.put, List.setIfInBounds_toArray, List.set_cons_zero, List.set_cons_succ]
      refine anyH_callG 3 (d := some 78) (f := 32) (xs := #[(.tmp 76), (.tmp 77)]) (ts := #[31, 31]) (gd := none) (vs := #[.agg (cellsOf Y).toArray, .agg (cellsOf s).toArray]) (by kernel_rfl) (by rfl) (fun o ho => wanted_plain ho _) (by go_simp) (by go_simp) (pairR_c Y s _ HYD.out HSD.out) ?_
      rintro e84 w84 ⟨p1, q1, rfl, hrd84, hb84⟩
      refine ⟨_, rfl, HS.out.step hb84, fun hS84 => ?_⟩
      have HS := Lib.hid hS84
      have HP1 := Lib.hid hrd84
      clear hS84 hb84 hrd84
      simp only [Act.put, List.setIfInBounds_toArray, List.set_cons_zero, List.set_cons_succ]
      refine anyH_callG 6 (d := some 81) (f := 32) (xs := #[(.tmp 79), (.tmp 80)]) (ts := #[31, 31]) (gd := none) (vs := #[.agg (cellsOf U).toArray, .agg (cellsOf V).toArray]) (by kernel_rfl) (by rfl) (fun o ho => wanted_plain ho _) (by go_simp) (by go_simp) (pairR_c U V _ HUD.out HVD.out) ?_
      rintro e85 w85 ⟨p2, q2, rfl, hrd85, hb85⟩
      refine ⟨_, rfl, HS.out.step hb85, fun hS85 => ?_⟩
      have HS := Lib.hid hS85
      have HP2 := Lib.hid hrd85
      have HP1 := Lib.hid (HP1.out.below hb85)
      clear hS85 hb85 hrd85
      simp only [Act.put, List.setIfInBounds_toArray, List.set_cons_zero, List.set_cons_succ]
      refine anyH_callG 7 (d := some 82) (f := 37) (xs := #[(.tmp 78), (.tmp 81)]) (ts := #[64, 64]) (gd := none) (vs := #[.slice p1 65 q1, .slice p2 65 q2]) (by kernel_rfl) (by rfl) (fun o ho => wanted_plain ho _) (by go_simp) (by go_simp) (apart_c p1 p2 65 q1 q2 _ _ _ HP1.out HP2.out HR.out HNEQ.out (by omega)) ?_
      rintro e86 w86 ⟨rfl, hb86⟩
      refine ⟨_, rfl, HS.out.step hb86, fun hS86 => ?_⟩
      have HS := Lib.hid hS86
      clear hS86 hb86
      simp only [Act.put, List.setIfInBounds_toArray, List.set_cons_zero, List.set_cons_succ]
      refine anyH_pureG 8 (d := 8) (op := .assign (.tmp 82)) (gd := none) (.bool true) (by rfl) (fun o ho => wanted_plain ho _) (by kernel_rfl) (by kernel_rfl) (by kernel_rfl) (fun _ _ _ h => h) (fun o ho W hW => by unfold execOp; simp only [ho]; go_simp) HS.out ?_
      simp only [Act.put, List.setIfInBounds_toArray, List.set_cons_zero, List.set_cons_succ]
      refine wpAnyH_done (by kernel_rfl) ?_ _
      go_wp2
      go_ret
      exact ⟨rfl, HS.out.1⟩
end Go.Proofs.YtoknjhpdbigbhaaDoor
