/-
  The walk over the document's Finds, where a way leads from another leaf to the root.
-/
import Derived.Test.YtdcninfbpmhojaaDoorApt
namespace Go.Proofs.YtdcninfbpmhojaaDoor
open Go.RowKit
set_option linter.unusedVariables false
theorem exec_dcut {T E : TypeId} (hT : DT T E) {x y : Operand} (b : Option Addr) (len cap k : Nat) (hk : k ≤ len) (a : Act) (hx : a.eval x = .slice b len cap) (hy : a.eval y = .int .i64 (k : Int)) (o : Oper) (ho : o.op = .slice T x (some y) none none) (W : World) :
    (execOp a.eval o).run Tryd.prog W = .ok (.value (.slice (sld b cap k) (len - k) (cap - k))) W := by
  unfold execOp
  simp only [ho, hx, hy, Option.map_none, Option.map_some, run_dcutAt hT W b len cap k hk, Sem.run_bind, Result.andThen_ok, Sem.run_pure]
theorem exec_dhead {T E : TypeId} (hT : DT T E) {x y : Operand} (b : Option Addr) (len cap k : Nat) (hk : k ≤ cap) (a : Act) (hx : a.eval x = .slice b len cap) (hy : a.eval y = .int .i64 (k : Int)) (o : Oper) (ho : o.op = .slice T x none (some y) none) (W : World) :
    (execOp a.eval o).run Tryd.prog W = .ok (.value (.slice b k cap)) W := by
  unfold execOp
  simp only [ho, hx, hy, Option.map_none, Option.map_some, run_dheadAt hT W b len cap k hk, Sem.run_bind, Result.andThen_ok, Sem.run_pure]
/-- what hands back bytes that can be read -/
def RetRd (zs : List Nat) (n : Nat) (w : World) (e : Ending) (w' : World) : Prop := ∃ a c, e = .returned (.slice a n c) ∧ Rd w' a n zs ∧ Below w.heap.size w w'
theorem pairR_c (l r : List Nat) (w : World) (hl : D32 l) (hr : D32 r) : Calls Tryd.prog 41 #[.agg (cellsOf l).toArray, .agg (cellsOf r).toArray] w (RetRd (pairL l r) 65 w) := by
  have hb : ∀ z ∈ (1 :: (l ++ r)), z < 256 := by
    intro z hz
    rcases List.mem_cons.1 hz with rfl | hz
    · omega
    · rcases List.mem_append.1 hz with h | h
      · exact hl.2 z h
      · exact hr.2 z h
  have hlen : (1 :: (l ++ r)).length = 65 := by rw [List.length_cons, List.length_append, hl.1, hr.1]
  refine (pair_c l r w hl hr).mono fun e w' h => ?_
  obtain ⟨v, rfl, ho, hbw⟩ := h
  obtain ⟨a, cap, hv, _, _, hrd⟩ := ho.rd hb
  rw [hlen] at hv hrd
  exact ⟨a, cap, by rw [hv], hrd, hbw⟩
def FS (w : World) (leaf : List Nat) (g10 : Nat) (s : List Nat) (la : Option Addr) (n : Nat) (l : Ds) (wa : Option Addr) (L : Nat) (way : Ds) (W : World) : Prop := Brow W w.heap.size 22 leaf ∧ Brow W g10 22 s ∧ DR W la n l ∧ DR W wa (L + 1) way ∧ Below w.heap.size w W
theorem FS.step {w W W' : World} {leaf : List Nat} {g10 : Nat} {s : List Nat} {la : Option Addr} {n : Nat} {l : Ds} {wa : Option Addr} {L : Nat} {way : Ds} (h : FS w leaf g10 s la n l wa L way W) (hb : Below W.heap.size W W') : FS w leaf g10 s la n l wa L way W' := ⟨h.1.below hb h.1.lt, h.2.1.below hb h.2.1.lt, h.2.2.1.below hb, h.2.2.2.1.below hb, h.2.2.2.2.trans (hb.mono h.2.2.2.2.size)⟩
theorem FS.drew {w W : World} {leaf : List Nat} {g10 : Nat} {s : List Nat} {la : Option Addr} {n : Nat} {l : Ds} {wa : Option Addr} {L : Nat} {way : Ds} (h : FS w leaf g10 s la n l wa L way W) : FS w leaf g10 s la n l wa L way W.drew := ⟨h.1.drew, h.2.1.drew, h.2.2.1, h.2.2.2.1, h.2.2.2.2.drew⟩
def FD (w : World) (leaf : List Nat) (g10 : Nat) (s : List Nat) (la : Option Addr) (n : Nat) (l : Ds) (wa : Option Addr) (L : Nat) (way : Ds) (g12 : Nat) (d : List Nat) (g15 : Nat) (A : List Nat) (W : World) : Prop := FS w leaf g10 s la n l wa L way W ∧ Brow W g12 22 d ∧ Brow W g15 22 A
theorem FD.step {w W W' : World} {leaf : List Nat} {g10 : Nat} {s : List Nat} {la : Option Addr} {n : Nat} {l : Ds} {wa : Option Addr} {L : Nat} {way : Ds} {g12 : Nat} {d : List Nat} {g15 : Nat} {A : List Nat} (h : FD w leaf g10 s la n l wa L way g12 d g15 A W) (hb : Below W.heap.size W W') : FD w leaf g10 s la n l wa L way g12 d g15 A W' := ⟨h.1.step hb, h.2.1.below hb h.2.1.lt, h.2.2.below hb h.2.2.lt⟩
theorem FD.drew {w W : World} {leaf : List Nat} {g10 : Nat} {s : List Nat} {la : Option Addr} {n : Nat} {l : Ds} {wa : Option Addr} {L : Nat} {way : Ds} {g12 : Nat} {d : List Nat} {g15 : Nat} {A : List Nat} (h : FD w leaf g10 s la n l wa L way g12 d g15 A W) : FD w leaf g10 s la n l wa L way g12 d g15 A W.drew := ⟨h.1.drew, h.2.1.drew, h.2.2.drew⟩
def RetTrue (w : World) (e : Ending) (w' : World) : Prop := e = .returned (.bool true) ∧ Below w.heap.size w w'
def FIH (n : Nat) : Prop := ∀ B q, q < n → ∀ (l : Ds) (i : Nat) (leaf : List Nat) (way : Ds) (la : Option Addr) (lc : Nat) (wa : Option Addr) (wl wc : Nat) (w : World), i < q → D32 leaf → DR w la q l → q ≤ lc → lc ≤ 9223372036854775807 → DR w wa wl way → wl ≤ wc → wc ≤ 9223372036854775807 → (∀ b, blkOf wa = some b → b < B) → B ≤ w.heap.size →
  topS q i leaf way = some (rootS l) → leaf ≠ l.getD i [] → Calls Tryd.prog 29 #[.slice la q lc, .int .i64 (i : Int), .agg (cellsOf leaf).toArray, .slice wa wl wc] w (RetTrue w)
theorem lay32 (W : World) (x : List Nat) (O : Obj) (hO : O = .cells (cellsOf zs32).toArray 22 (0, 0)) : Brow ((W.alloc O).setRow W.heap.size (cellsOf x).toArray) W.heap.size 22 x ∧ Below W.heap.size W ((W.alloc O).setRow W.heap.size (cellsOf x).toArray) := by
  subst hO
  exact ⟨(Brow.new W 22 zs32).setRow, ((Below.refl _ _).alloc (Nat.le_refl _) _).setRow (Nat.le_refl _) _⟩
set_option maxRecDepth 100000 in
set_option maxHeartbeats 16000000 in
theorem fds_l (B n k i L : Nat) (ih : FIH n) (l : Ds) (leaf : List Nat) (way : Ds) (la : Option Addr) (lc : Nat) (wa : Option Addr) (wc : Nat) (w : World) (h2 : 2 ≤ n) (hn : n ≤ 9223372036854775807) (hi : i < n) (hk : Mk.half n = k) (hik : i < k) (hf : D32 leaf) (hl : DR w la n l) (hlc : n ≤ lc) (hlm : lc ≤ 9223372036854775807)
    (hw : DR w wa (L + 1) way) (hwc : L + 1 ≤ wc) (hwm : wc ≤ 9223372036854775807) (hab : ∀ b, blkOf wa = some b → b < B) (hB : B ≤ w.heap.size) (htop : topS n i leaf way = some (rootS l)) (hne : leaf ≠ l.getD i []) :
    Calls Tryd.prog 29 #[.slice la n lc, .int .i64 (i : Int), .agg (cellsOf leaf).toArray, .slice wa (L + 1) wc] w (RetTrue w) := by
  have hk0 : 0 < k := by rw [← hk]; exact Mk.half_pos n
  have hkn : k < n := by rw [← hk]; exact Mk.half_lt n h2
  obtain ⟨wb, wo, rfl, _, _⟩ := hw.at L (by omega)
  obtain ⟨s, hs⟩ : ∃ s, s = way.getD L [] := ⟨_, rfl⟩
  have HSD := Lib.hid (show D32 s from by rw [hs]; exact D32.get hw.2.1 L (by rw [hw.1]; omega))
  have hroot : rootS l = nodeS (rootS (l.take k)) (rootS (l.drop k)) := by rw [rootS_more l (by rw [hl.1]; omega), hl.1, hk]
  obtain ⟨d, hd, he⟩ : ∃ d, topS k i leaf (way.take L) = some d ∧ nodeS d s = nodeS (rootS (l.take k)) (rootS (l.drop k)) := by
    rw [way_snoc hw.1, ← hs, show topS n i leaf (way.take L ++ [s]) = _ from Mk.top_left _ _ _ _ _ _ h2 (by rw [hk]; exact hik), hk, hroot] at htop
    obtain ⟨d, h1, h3⟩ := Option.map_eq_some_iff.1 htop
    exact ⟨d, h1, h3⟩
  obtain ⟨A, hA⟩ : ∃ A, A = rootS (l.take k) := ⟨_, rfl⟩
  obtain ⟨R, hR⟩ : ∃ R, R = rootS (l.drop k) := ⟨_, rfl⟩
  rw [← hA, ← hR] at he
  have HAD := Lib.hid (show D32 A from by rw [hA]; exact d32_root _ (d32_take hl.2.1 _))
  have HRD := Lib.hid (show D32 R from by rw [hR]; exact d32_root _ (d32_drop hl.2.1 _))
  have HDD := Lib.hid (d32_top hd hf)
  have HE := Lib.hid (show d = A ∧ s = R ∨ (Sha.sum (pairL d s) = Sha.sum (pairL A R) ∧ pairL d s ≠ pairL A R) from by
    by_cases h : pairL d s = pairL A R
    · exact .inl (pairL_inj h (by rw [HDD.out.1, HAD.out.1]))
    · exact .inr ⟨he, h⟩)
  have HUP := Lib.hid (show ∀ W, Below w.heap.size w W → DR W (some ⟨wb, wo, none⟩) L (way.take L) → Calls Tryd.prog 43 #[.int .i64 (k : Int), .int .i64 (i : Int), .agg (cellsOf leaf).toArray, .slice (some ⟨wb, wo, none⟩) L wc] W (fun e w' => ∃ ra rl rc, e = .returned (.tuple #[.agg (cellsOf d).toArray, .slice ra rl rc, .bool true]) ∧ Below W.heap.size W w') from fun W hW hWD => by
    refine (rup_g k B (by omega) (by omega) i leaf (some ⟨wb, wo, none⟩) L wc (way.take L) W (by omega) hf hWD (by omega) hwm hab (Nat.le_trans hB hW.size)).mono ?_
    have hu : upS k i leaf (way.take L) = some (d, []) := (Mk.top_eq _ _ _ _ _ _).1 hd
    rintro e w' ⟨hb, ⟨h, _⟩ | ⟨d', rest, ra, rl, rc, h, _, _, _, _, _, rfl⟩⟩
    · rw [hu] at h; cases h
    · rw [hu] at h
      cases h
      exact ⟨ra, rl, rc, rfl, hb⟩)
  have HH := Lib.hid (fun W => rhalf_c n W h2 (by omega))
  rw [hk] at HH
  have HRA := Lib.hid (show ∀ W, DR W la n l → Calls Tryd.prog 19 #[.slice la k lc] W (DigRet A W) from fun W hW => by rw [hA]; exact rroot_c k _ _ _ W (hW.take k (by omega)) (by omega) (by omega))
  have HRR := Lib.hid (show ∀ W, DR W la n l → Calls Tryd.prog 19 #[.slice (sld la lc k) (n - k) (lc - k)] W (DigRet R W) from fun W hW => by rw [hR]; exact rroot_c (n - k) _ _ _ W (hW.drop lc k (by omega) hlc) (by omega) (by omega))
  have HREC := Lib.hid (show d = A → ∀ W, Below w.heap.size w W → DR W la n l → DR W (some ⟨wb, wo, none⟩) (L + 1) way → Calls Tryd.prog 29 #[.slice la k lc, .int .i64 (i : Int), .agg (cellsOf leaf).toArray, .slice (some ⟨wb, wo, none⟩) L wc] W (RetTrue W) from fun hdA W hW hWl hWw => ih B k (by omega) _ i leaf (way.take L) _ _ _ _ _ W (by omega) hf (hWl.take k (by omega)) (by omega) (by omega) (hWw.take L (by omega)) (by omega) hwm hab (Nat.le_trans hB hW.size) (by rw [hd, hdA, hA]) (by
    rw [show (l.take k).getD i [] = l.getD i [] by simp [List.getD_eq_getElem?_getD, hik]]
    exact hne))
  have HLF := Lib.hid hf
  have HL := Lib.hid hl
  have HW := Lib.hid hw
  have HSX := Lib.hid hs
  have q0 : ¬ (n : Int) < 2 := by omega
  have q1 : (i : Int) < (k : Int) := by omega
  have kI := fun W => run_dindex dtR W wb wo (L + 1) wc L (by omega)
  have kW := fun W => run_dheadAt dtR W (some ⟨wb, wo, none⟩) (L + 1) wc L (by omega)
  have kH := fun W => run_dheadAt dtR W la n lc k (by omega)
  have kT := fun W => run_dcutAt dtR W la n lc k (by omega)
  have HIS := Lib.hid (info32 dtR HSD.out)
  have HZS := Lib.hid (zsize HSD.out)
  have HID := Lib.hid (info32 dtR HDD.out)
  have HZD := Lib.hid (zsize HDD.out)
  have HIA := Lib.hid (info32 dtR HAD.out)
  have HZA := Lib.hid (zsize HAD.out)
  have HIL := Lib.hid (info32 dtR HLF.out)
  have HGT := Lib.hid (show Tryd.prog.eqGuardType Tryd.prog.depth 22 = false by kernel_rfl)
  have HDA := Lib.hid (fun W => eqDD dtR W HDD.out HAD.out)
  have HSR := Lib.hid (fun W => eqDD dtR W HSD.out HRD.out)
  clear ih hf hl hw hs hroot hd he hA hR hk hab htop hne
  go_enter Tryd.func29, Tryd.ntmps29
  go_upto_region 1 with fail
  refine gen_code (F := fun W => Brow W w.heap.size 22 leaf ∧ Below w.heap.size w W) ⟨heap_new _ _, (Below.refl _ _).alloc (Nat.le_refl _) _⟩ ?_
  rintro wA ⟨hb, hbw⟩
  have HB := Lib.hid hb
  have HBW := Lib.hid hbw
  have HLS := Lib.hid (run_dload dtR wA wb (wo + L * 32) s HSD.out (by
    obtain ⟨b', o', h1, _, h3⟩ := (HW.out.below hbw).at L (by omega)
    simp only [Option.some.injEq, Addr.mk.injEq, and_true] at h1
    obtain ⟨rfl, rfl⟩ := h1
    rw [HSX.out]
    exact h3))
  clear hb hbw
  go_upto_region 6 with (first | (go_at_call 33; refine (HH.out _).mono ?_; rintro e wb ⟨rfl, rfl⟩) | (refine wpList_loadg 22 _ (by rfl) (by rfl) (.pointer (some ⟨wb, wo + L * 32, none⟩)) (by rfl) (.agg (cellsOf s).toArray) HLS.out ?_) | (refine wpList_store_row (by rfl) 22 _ _ (by rfl) wA.heap.size (cellsOf s).toArray (by rfl) (by rfl) 22 (cellsOf zs32).toArray (by exact heap_new _ _) HIS.out HZS.out (cellsOf_all _) ?_))
  obtain ⟨g10, hg10⟩ : ∃ g, g = wA.heap.size := ⟨_, rfl⟩
  refine gen_code (F := FS w leaf g10 s la n l (some ⟨wb, wo, none⟩) L way) (by
    rw [hg10]
    obtain ⟨h1, h2⟩ := lay32 wA s _ rfl
    exact ⟨HB.out.below h2 HB.out.lt, h1, (HL.out.below HBW.out).below h2, (HW.out.below HBW.out).below h2, HBW.out.trans (h2.mono HBW.out.size)⟩) ?_
  rw [← hg10]
  intro w2 h2s
  have HS2 := Lib.hid h2s
  clear h2s HB HBW HLS hg10 kI HL HW
  go_wp2_with (first | (refine wpList_load_row (by rfl) 22 _ (by rfl) w.heap.size (by rfl) _ (cellsOf leaf).toArray (0, 0) _ HS2.out.1 Tryd.underlying22 (by rfl) HIL.out ?_))
  refine (HUP.out _ HS2.out.2.2.2.2 (HS2.out.2.2.2.1.take L (by omega))).mono ?_
  rintro e w3 ⟨ra, rl, rc, rfl, hb3⟩
  have HS3 := Lib.hid (HS2.out.step hb3)
  clear hb3 HS2
  go_upto_region 8 with (first | (refine wpList_store_row (by rfl) 22 _ _ (by rfl) w3.heap.size (cellsOf d).toArray (by rfl) (by rfl) 22 (cellsOf zs32).toArray (by exact heap_new _ _) HID.out HZD.out (cellsOf_all _) ?_))
  obtain ⟨g12, hg12⟩ : ∃ g, g = w3.heap.size := ⟨_, rfl⟩
  refine gen_code (F := fun W => FS w leaf g10 s la n l (some ⟨wb, wo, none⟩) L way W ∧ Brow W g12 22 d) (by
    rw [hg12]
    obtain ⟨h1, h2⟩ := lay32 w3 d _ rfl
    exact ⟨HS3.out.step h2, h1⟩) ?_
  rw [← hg12]
  rintro w4 ⟨hs4, hd4⟩
  have HS4 := Lib.hid hs4
  have HD4 := Lib.hid hd4
  clear hs4 hd4 HS3 hg12
  go_wp2_with fail
  refine (HRA.out _ HS4.out.2.2.1).mono ?_
  rintro e w5 ⟨rfl, hb5⟩
  have HS5 := Lib.hid (HS4.out.step hb5)
  have HD5 := Lib.hid (HD4.out.below hb5 HD4.out.lt)
  clear hb5 HS4 HD4
  go_upto_region 9 with (first | (refine wpList_store_row (by rfl) 22 _ _ (by rfl) w5.heap.size (cellsOf A).toArray (by rfl) (by rfl) 22 (cellsOf zs32).toArray (by exact heap_new _ _) HIA.out HZA.out (cellsOf_all _) ?_))
  obtain ⟨g15, hg15⟩ : ∃ g, g = w5.heap.size := ⟨_, rfl⟩
  refine gen_code (F := FD w leaf g10 s la n l (some ⟨wb, wo, none⟩) L way g12 d g15 A) (by
    rw [hg15]
    obtain ⟨h1, h2⟩ := lay32 w5 A _ rfl
    exact ⟨HS5.out.step h2, HD5.out.below h2 HD5.out.lt, h1⟩) ?_
  rw [← hg15]
  intro w6 h6
  have HS := Lib.hid h6.drew
  clear h6 HS5 HD5 hg15 kW kH kT
  have HLD := Lib.hid (fun W (hW : FD w leaf g10 s la n l (some ⟨wb, wo, none⟩) L way g12 d g15 A W) => run_dload dtR W g12 0 d HDD.out hW.2.1.range)
  have HLA := Lib.hid (fun W (hW : FD w leaf g10 s la n l (some ⟨wb, wo, none⟩) L way g12 d g15 A W) => run_dload dtR W g15 0 A HAD.out hW.2.2.range)
  have HLS := Lib.hid (fun W (hW : FD w leaf g10 s la n l (some ⟨wb, wo, none⟩) L way g12 d g15 A W) => run_dload dtR W g10 0 s HSD.out hW.1.2.1.range)
  have HLL := Lib.hid (fun W (hW : FD w leaf g10 s la n l (some ⟨wb, wo, none⟩) L way g12 d g15 A W) => run_dload dtR W w.heap.size 0 leaf HLF.out hW.1.1.range)
  (try dsimp only [Act.put, List.setIfInBounds_toArray, List.set_cons_zero, List.set_cons_succ])
  by_cases hdA : d = A
  · rw [decide_eq_true hdA] at HDA
    have HRC := Lib.hid (HREC.out hdA)
    by_cases hsR : s = R
    · rw [decide_eq_true hsR] at HSR
      clear HREC HE
      clear hdA hsR
      refine anyH_begin (S := FD w leaf g10 s la n l (some ⟨wb, wo, none⟩) L way g12 d g15 A) (by kernel_rfl) ?_
      refine anyH_pureG 0 (d := 58) (op := .move (.tmp 14)) (gd := none) (.bool true) (by rfl) (fun o ho => wanted_plain ho _) (by kernel_rfl) (by kernel_rfl) (by kernel_rfl) (fun _ _ _ h => h) (fun o ho W hW => by unfold execOp; simp only [ho]; go_simp) HS.out ?_
      simp only [Act.put, List.setIfInBounds_toArray, List.set_cons_zero, List.set_cons_succ]
      refine anyH_pureG 1 (d := 59) (op := .move (.tmp 58)) (gd := none) (.bool true) (by rfl) (fun o ho => wanted_plain ho _) (by kernel_rfl) (by kernel_rfl) (by kernel_rfl) (fun _ _ _ h => h) (fun o ho W hW => by unfold execOp; simp only [ho]; go_simp) HS.out ?_
      simp only [Act.put, List.setIfInBounds_toArray, List.set_cons_zero, List.set_cons_succ]
      refine anyH_loadG 2 (d := 60) (ty := 22) (x := (.tmp 12)) (gd := some (1, true)) (p := .pointer (some ⟨g12, 0, none⟩)) (.agg (cellsOf d).toArray) (by rfl) (fun o ho => by simp only [Region.wanted, ho]; rfl) (by kernel_rfl) (by kernel_rfl) (by kernel_rfl) (fun _ _ _ h => h) (by rfl) HLD.out HS.out ?_
      simp only [Act.put, List.setIfInBounds_toArray, List.set_cons_zero, List.set_cons_succ]
      refine anyH_loadG 3 (d := 61) (ty := 22) (x := (.tmp 15)) (gd := some (1, true)) (p := .pointer (some ⟨g15, 0, none⟩)) (.agg (cellsOf A).toArray) (by rfl) (fun o ho => by simp only [Region.wanted, ho]; rfl) (by kernel_rfl) (by kernel_rfl) (by kernel_rfl) (fun _ _ _ h => h) (by rfl) HLA.out HS.out ?_
      simp only [Act.put, List.setIfInBounds_toArray, List.set_cons_zero, List.set_cons_succ]
      refine anyH_neqG 4 (d := 62) (t := 22) (t' := 22) (x := (.tmp 60)) (y := (.tmp 61)) (gd := some (1, true)) ((cellsOf d).toArray) ((cellsOf A).toArray) true (by rfl) (fun o ho => by simp only [Region.wanted, ho]; rfl) (by kernel_rfl) (by kernel_rfl) (by kernel_rfl) (fun _ _ _ h => h) (by rfl) (by rfl) HGT.out HDA.out HS.out ?_
      simp only [Act.put, List.setIfInBounds_toArray, List.set_cons_zero, List.set_cons_succ]
      refine anyH_pureG 5 (d := 63) (op := .move (.tmp 62)) (gd := some (1, true)) (.bool false) (by rfl) (fun o ho => by simp only [Region.wanted, ho]; rfl) (by kernel_rfl) (by kernel_rfl) (by kernel_rfl) (fun _ _ _ h => h) (fun o ho W hW => by unfold execOp; simp only [ho]; go_simp) HS.out ?_
      simp only [Act.put, List.setIfInBounds_toArray, List.set_cons_zero, List.set_cons_succ]
      refine anyH_loadG 6 (d := 64) (ty := 22) (x := (.tmp 10)) (gd := some (5, false)) (p := .pointer (some ⟨g10, 0, none⟩)) (.agg (cellsOf s).toArray) (by rfl) (fun o ho => by simp only [Region.wanted, ho]; rfl) (by kernel_rfl) (by kernel_rfl) (by kernel_rfl) (fun _ _ _ h => h) (by rfl) HLS.out HS.out ?_
      simp only [Act.put, List.setIfInBounds_toArray, List.set_cons_zero, List.set_cons_succ]
      refine anyH_pureG 7 (d := 65) (op := .move (.tmp 0)) (gd := some (5, false)) (.slice la n lc) (by rfl) (fun o ho => by simp only [Region.wanted, ho]; rfl) (by kernel_rfl) (by kernel_rfl) (by kernel_rfl) (fun _ _ _ h => h) (fun o ho W hW => by unfold execOp; simp only [ho]; go_simp) HS.out ?_
      simp only [Act.put, List.setIfInBounds_toArray, List.set_cons_zero, List.set_cons_succ]
      refine anyH_pureG 8 (d := 66) (op := .move (.tmp 9)) (gd := some (5, false)) (.int .i64 (k : Int)) (by rfl) (fun o ho => by simp only [Region.wanted, ho]; rfl) (by kernel_rfl) (by kernel_rfl) (by kernel_rfl) (fun _ _ _ h => h) (fun o ho W hW => by unfold execOp; simp only [ho]; go_simp) HS.out ?_
      simp only [Act.put, List.setIfInBounds_toArray, List.set_cons_zero, List.set_cons_succ]
      refine anyH_pureG 9 (d := 67) (op := .slice 24 (.tmp 65) (some (.tmp 66)) none none) (gd := some (5, false)) (.slice (sld la lc k) (n - k) (lc - k)) (by rfl) (fun o ho => by simp only [Region.wanted, ho]; rfl) (by kernel_rfl) (by kernel_rfl) (by kernel_rfl) (fun _ _ _ h => h) (fun o ho W hW => exec_dcut dtR (x := .tmp 65) (y := .tmp 66) la n lc k (by omega) _ (by rfl) (by rfl) o ho W) HS.out ?_
      simp only [Act.put, List.setIfInBounds_toArray, List.set_cons_zero, List.set_cons_succ]
      refine anyH_callG 10 (d := some 68) (f := 19) (xs := #[(.tmp 67)]) (ts := #[24]) (gd := some (5, false)) (vs := #[.slice (sld la lc k) (n - k) (lc - k)]) (by kernel_rfl) (by rfl) (fun o ho => by simp only [Region.wanted, ho]; rfl) (by go_simp) (by go_simp) (HRR.out _ HS.out.1.2.2.1) ?_
      rintro e81 w81 ⟨rfl, hb81⟩
      refine ⟨_, rfl, HS.out.step hb81, fun hS81 => ?_⟩
      have HS := Lib.hid hS81
      clear hS81 hb81
      simp only [Act.put, List.setIfInBounds_toArray, List.set_cons_zero, List.set_cons_succ]
      refine anyH_neqG 11 (d := 69) (t := 22) (t' := 22) (x := (.tmp 64)) (y := (.tmp 68)) (gd := some (5, false)) ((cellsOf s).toArray) ((cellsOf R).toArray) true (by rfl) (fun o ho => by simp only [Region.wanted, ho]; rfl) (by kernel_rfl) (by kernel_rfl) (by kernel_rfl) (fun _ _ _ h => h) (by rfl) (by rfl) HGT.out HSR.out HS.out ?_
      simp only [Act.put, List.setIfInBounds_toArray, List.set_cons_zero, List.set_cons_succ]
      refine anyH_pureG 12 (d := 70) (op := .pick (.tmp 63) (.const (.bool true)) (.tmp 69)) (gd := some (1, true)) (.bool false) (by rfl) (fun o ho => by simp only [Region.wanted, ho]; rfl) (by kernel_rfl) (by kernel_rfl) (by kernel_rfl) (fun _ _ _ h => h) (fun o ho W hW => by unfold execOp; simp only [ho]; go_simp) HS.out ?_
      simp only [Act.put, List.setIfInBounds_toArray, List.set_cons_zero, List.set_cons_succ]
      refine anyH_pureG 13 (d := 71) (op := .pick (.tmp 59) (.tmp 70) (.const (.bool false))) (gd := none) (.bool false) (by rfl) (fun o ho => wanted_plain ho _) (by kernel_rfl) (by kernel_rfl) (by kernel_rfl) (fun _ _ _ h => h) (fun o ho W hW => by unfold execOp; simp only [ho]; go_simp) HS.out ?_
      simp only [Act.put, List.setIfInBounds_toArray, List.set_cons_zero, List.set_cons_succ]
      refine wpAnyH_done (by kernel_rfl) ?_ _
      go_upto_region 11 with fail
      (try dsimp only [Act.put, List.setIfInBounds_toArray, List.set_cons_zero, List.set_cons_succ])
      have HS := Lib.hid HS.out.drew
      refine anyH_begin (S := FD w leaf g10 s la n l (some ⟨wb, wo, none⟩) L way g12 d g15 A) (by kernel_rfl) ?_
      refine anyH_pureG 0 (d := 82) (op := .move (.tmp 14)) (gd := none) (.bool true) (by rfl) (fun o ho => wanted_plain ho _) (by kernel_rfl) (by kernel_rfl) (by kernel_rfl) (fun _ _ _ h => h) (fun o ho W hW => by unfold execOp; simp only [ho]; go_simp) HS.out ?_
      simp only [Act.put, List.setIfInBounds_toArray, List.set_cons_zero, List.set_cons_succ]
      refine anyH_pureG 1 (d := 83) (op := .move (.tmp 82)) (gd := none) (.bool true) (by rfl) (fun o ho => wanted_plain ho _) (by kernel_rfl) (by kernel_rfl) (by kernel_rfl) (fun _ _ _ h => h) (fun o ho W hW => by unfold execOp; simp only [ho]; go_simp) HS.out ?_
      simp only [Act.put, List.setIfInBounds_toArray, List.set_cons_zero, List.set_cons_succ]
      refine anyH_pureG 2 (d := 84) (op := .move (.tmp 0)) (gd := some (1, true)) (.slice la n lc) (by rfl) (fun o ho => by simp only [Region.wanted, ho]; rfl) (by kernel_rfl) (by kernel_rfl) (by kernel_rfl) (fun _ _ _ h => h) (fun o ho W hW => by unfold execOp; simp only [ho]; go_simp) HS.out ?_
      simp only [Act.put, List.setIfInBounds_toArray, List.set_cons_zero, List.set_cons_succ]
      refine anyH_pureG 3 (d := 85) (op := .move (.tmp 9)) (gd := some (1, true)) (.int .i64 (k : Int)) (by rfl) (fun o ho => by simp only [Region.wanted, ho]; rfl) (by kernel_rfl) (by kernel_rfl) (by kernel_rfl) (fun _ _ _ h => h) (fun o ho W hW => by unfold execOp; simp only [ho]; go_simp) HS.out ?_
      simp only [Act.put, List.setIfInBounds_toArray, List.set_cons_zero, List.set_cons_succ]
      refine anyH_pureG 4 (d := 86) (op := .slice 24 (.tmp 84) none (some (.tmp 85)) none) (gd := some (1, true)) (.slice la k lc) (by rfl) (fun o ho => by simp only [Region.wanted, ho]; rfl) (by kernel_rfl) (by kernel_rfl) (by kernel_rfl) (fun _ _ _ h => h) (fun o ho W hW => exec_dhead dtR (x := .tmp 84) (y := .tmp 85) la n lc k (by omega) _ (by rfl) (by rfl) o ho W) HS.out ?_
      simp only [Act.put, List.setIfInBounds_toArray, List.set_cons_zero, List.set_cons_succ]
      refine anyH_pureG 5 (d := 87) (op := .move (.tmp 1)) (gd := some (1, true)) (.int .i64 (i : Int)) (by rfl) (fun o ho => by simp only [Region.wanted, ho]; rfl) (by kernel_rfl) (by kernel_rfl) (by kernel_rfl) (fun _ _ _ h => h) (fun o ho W hW => by unfold execOp; simp only [ho]; go_simp) HS.out ?_
      simp only [Act.put, List.setIfInBounds_toArray, List.set_cons_zero, List.set_cons_succ]
      refine anyH_loadG 6 (d := 88) (ty := 22) (x := (.tmp 6)) (gd := some (1, true)) (p := .pointer (some ⟨w.heap.size, 0, none⟩)) (.agg (cellsOf leaf).toArray) (by rfl) (fun o ho => by simp only [Region.wanted, ho]; rfl) (by kernel_rfl) (by kernel_rfl) (by kernel_rfl) (fun _ _ _ h => h) (by rfl) HLL.out HS.out ?_
      simp only [Act.put, List.setIfInBounds_toArray, List.set_cons_zero, List.set_cons_succ]
      refine anyH_pureG 7 (d := 89) (op := .move (.tmp 11)) (gd := some (1, true)) (.slice (some ⟨wb, wo, none⟩) L wc) (by rfl) (fun o ho => by simp only [Region.wanted, ho]; rfl) (by kernel_rfl) (by kernel_rfl) (by kernel_rfl) (fun _ _ _ h => h) (fun o ho W hW => by unfold execOp; simp only [ho]; go_simp) HS.out ?_
      simp only [Act.put, List.setIfInBounds_toArray, List.set_cons_zero, List.set_cons_succ]
      refine anyH_callG 8 (d := some 90) (f := 29) (xs := #[(.tmp 86), (.tmp 87), (.tmp 88), (.tmp 89)]) (ts := #[24, 3, 22, 24]) (gd := some (1, true)) (vs := #[.slice la k lc, .int .i64 (i : Int), .agg (cellsOf leaf).toArray, .slice (some ⟨wb, wo, none⟩) L wc]) (by kernel_rfl) (by rfl) (fun o ho => by simp only [Region.wanted, ho]; rfl) (by go_simp) (by go_simp) (HRC.out _ HS.out.1.2.2.2.2 HS.out.1.2.2.1 HS.out.1.2.2.2.1) ?_
      rintro e86 w86 ⟨rfl, hb86⟩
      refine ⟨_, rfl, HS.out.step hb86, fun hS86 => ?_⟩
      have HS := Lib.hid hS86
      clear hS86 hb86
      simp only [Act.put, List.setIfInBounds_toArray, List.set_cons_zero, List.set_cons_succ]
      refine anyH_pureG 9 (d := 91) (op := .pick (.tmp 83) (.tmp 90) (.const (.bool false))) (gd := none) (.bool true) (by rfl) (fun o ho => wanted_plain ho _) (by kernel_rfl) (by kernel_rfl) (by kernel_rfl) (fun _ _ _ h => h) (fun o ho W hW => by unfold execOp; simp only [ho]; go_simp) HS.out ?_
      simp only [Act.put, List.setIfInBounds_toArray, List.set_cons_zero, List.set_cons_succ]
      refine anyH_pureG 10 (d := 8) (op := .assign (.tmp 91)) (gd := none) (.bool true) (by rfl) (fun o ho => wanted_plain ho _) (by kernel_rfl) (by kernel_rfl) (by kernel_rfl) (fun _ _ _ h => h) (fun o ho W hW => by unfold execOp; simp only [ho]; go_simp) HS.out ?_
      simp only [Act.put, List.setIfInBounds_toArray, List.set_cons_zero, List.set_cons_succ]
      refine wpAnyH_done (by kernel_rfl) ?_ _
      go_wp2
      go_ret
      exact ⟨rfl, HS.out.1.2.2.2.2⟩
    · rw [decide_eq_false hsR] at HSR
      obtain ⟨hsum, hneq⟩ := HE.out.resolve_left (fun h => hsR h.2)
      have HSUM := Lib.hid hsum
      have HNEQ := Lib.hid hneq
      clear hsum hneq HE HREC HRC
      clear hdA hsR
      refine anyH_begin (S := FD w leaf g10 s la n l (some ⟨wb, wo, none⟩) L way g12 d g15 A) (by kernel_rfl) ?_
      refine anyH_pureG 0 (d := 58) (op := .move (.tmp 14)) (gd := none) (.bool true) (by rfl) (fun o ho => wanted_plain ho _) (by kernel_rfl) (by kernel_rfl) (by kernel_rfl) (fun _ _ _ h => h) (fun o ho W hW => by unfold execOp; simp only [ho]; go_simp) HS.out ?_
      simp only [Act.put, List.setIfInBounds_toArray, List.set_cons_zero, List.set_cons_succ]
      refine anyH_pureG 1 (d := 59) (op := .move (.tmp 58)) (gd := none) (.bool true) (by rfl) (fun o ho => wanted_plain ho _) (by kernel_rfl) (by kernel_rfl) (by kernel_rfl) (fun _ _ _ h => h) (fun o ho W hW => by unfold execOp; simp only [ho]; go_simp) HS.out ?_
      simp only [Act.put, List.setIfInBounds_toArray, List.set_cons_zero, List.set_cons_succ]
      refine anyH_loadG 2 (d := 60) (ty := 22) (x := (.tmp 12)) (gd := some (1, true)) (p := .pointer (some ⟨g12, 0, none⟩)) (.agg (cellsOf d).toArray) (by rfl) (fun o ho => by simp only [Region.wanted, ho]; rfl) (by kernel_rfl) (by kernel_rfl) (by kernel_rfl) (fun _ _ _ h => h) (by rfl) HLD.out HS.out ?_
      simp only [Act.put, List.setIfInBounds_toArray, List.set_cons_zero, List.set_cons_succ]
      refine anyH_loadG 3 (d := 61) (ty := 22) (x := (.tmp 15)) (gd := some (1, true)) (p := .pointer (some ⟨g15, 0, none⟩)) (.agg (cellsOf A).toArray) (by rfl) (fun o ho => by simp only [Region.wanted, ho]; rfl) (by kernel_rfl) (by kernel_rfl) (by kernel_rfl) (fun _ _ _ h => h) (by rfl) HLA.out HS.out ?_
      simp only [Act.put, List.setIfInBounds_toArray, List.set_cons_zero, List.set_cons_succ]
      refine anyH_neqG 4 (d := 62) (t := 22) (t' := 22) (x := (.tmp 60)) (y := (.tmp 61)) (gd := some (1, true)) ((cellsOf d).toArray) ((cellsOf A).toArray) true (by rfl) (fun o ho => by simp only [Region.wanted, ho]; rfl) (by kernel_rfl) (by kernel_rfl) (by kernel_rfl) (fun _ _ _ h => h) (by rfl) (by rfl) HGT.out HDA.out HS.out ?_
      simp only [Act.put, List.setIfInBounds_toArray, List.set_cons_zero, List.set_cons_succ]
      refine anyH_pureG 5 (d := 63) (op := .move (.tmp 62)) (gd := some (1, true)) (.bool false) (by rfl) (fun o ho => by simp only [Region.wanted, ho]; rfl) (by kernel_rfl) (by kernel_rfl) (by kernel_rfl) (fun _ _ _ h => h) (fun o ho W hW => by unfold execOp; simp only [ho]; go_simp) HS.out ?_
      simp only [Act.put, List.setIfInBounds_toArray, List.set_cons_zero, List.set_cons_succ]
      refine anyH_loadG 6 (d := 64) (ty := 22) (x := (.tmp 10)) (gd := some (5, false)) (p := .pointer (some ⟨g10, 0, none⟩)) (.agg (cellsOf s).toArray) (by rfl) (fun o ho => by simp only [Region.wanted, ho]; rfl) (by kernel_rfl) (by kernel_rfl) (by kernel_rfl) (fun _ _ _ h => h) (by rfl) HLS.out HS.out ?_
      simp only [Act.put, List.setIfInBounds_toArray, List.set_cons_zero, List.set_cons_succ]
      refine anyH_pureG 7 (d := 65) (op := .move (.tmp 0)) (gd := some (5, false)) (.slice la n lc) (by rfl) (fun o ho => by simp only [Region.wanted, ho]; rfl) (by kernel_rfl) (by kernel_rfl) (by kernel_rfl) (fun _ _ _ h => h) (fun o ho W hW => by unfold execOp; simp only [ho]; go_simp) HS.out ?_
      simp only [Act.put, List.setIfInBounds_toArray, List.set_cons_zero, List.set_cons_succ]
      refine anyH_pureG 8 (d := 66) (op := .move (.tmp 9)) (gd := some (5, false)) (.int .i64 (k : Int)) (by rfl) (fun o ho => by simp only [Region.wanted, ho]; rfl) (by kernel_rfl) (by kernel_rfl) (by kernel_rfl) (fun _ _ _ h => h) (fun o ho W hW => by unfold execOp; simp only [ho]; go_simp) HS.out ?_
      simp only [Act.put, List.setIfInBounds_toArray, List.set_cons_zero, List.set_cons_succ]
      refine anyH_pureG 9 (d := 67) (op := .slice 24 (.tmp 65) (some (.tmp 66)) none none) (gd := some (5, false)) (.slice (sld la lc k) (n - k) (lc - k)) (by rfl) (fun o ho => by simp only [Region.wanted, ho]; rfl) (by kernel_rfl) (by kernel_rfl) (by kernel_rfl) (fun _ _ _ h => h) (fun o ho W hW => exec_dcut dtR (x := .tmp 65) (y := .tmp 66) la n lc k (by omega) _ (by rfl) (by rfl) o ho W) HS.out ?_
      simp only [Act.put, List.setIfInBounds_toArray, List.set_cons_zero, List.set_cons_succ]
      refine anyH_callG 10 (d := some 68) (f := 19) (xs := #[(.tmp 67)]) (ts := #[24]) (gd := some (5, false)) (vs := #[.slice (sld la lc k) (n - k) (lc - k)]) (by kernel_rfl) (by rfl) (fun o ho => by simp only [Region.wanted, ho]; rfl) (by go_simp) (by go_simp) (HRR.out _ HS.out.1.2.2.1) ?_
      rintro e81 w81 ⟨rfl, hb81⟩
      refine ⟨_, rfl, HS.out.step hb81, fun hS81 => ?_⟩
      have HS := Lib.hid hS81
      clear hS81 hb81
      simp only [Act.put, List.setIfInBounds_toArray, List.set_cons_zero, List.set_cons_succ]
      refine anyH_neqG 11 (d := 69) (t := 22) (t' := 22) (x := (.tmp 64)) (y := (.tmp 68)) (gd := some (5, false)) ((cellsOf s).toArray) ((cellsOf R).toArray) false (by rfl) (fun o ho => by simp only [Region.wanted, ho]; rfl) (by kernel_rfl) (by kernel_rfl) (by kernel_rfl) (fun _ _ _ h => h) (by rfl) (by rfl) HGT.out HSR.out HS.out ?_
      simp only [Act.put, List.setIfInBounds_toArray, List.set_cons_zero, List.set_cons_succ]
      refine anyH_pureG 12 (d := 70) (op := .pick (.tmp 63) (.const (.bool true)) (.tmp 69)) (gd := some (1, true)) (.bool true) (by rfl) (fun o ho => by simp only [Region.wanted, ho]; rfl) (by kernel_rfl) (by kernel_rfl) (by kernel_rfl) (fun _ _ _ h => h) (fun o ho W hW => by unfold execOp; simp only [ho]; go_simp) HS.out ?_
      simp only [Act.put, List.setIfInBounds_toArray, List.set_cons_zero, List.set_cons_succ]
      refine anyH_pureG 13 (d := 71) (op := .pick (.tmp 59) (.tmp 70) (.const (.bool false))) (gd := none) (.bool true) (by rfl) (fun o ho => wanted_plain ho _) (by kernel_rfl) (by kernel_rfl) (by kernel_rfl) (fun _ _ _ h => h) (fun o ho W hW => by unfold execOp; simp only [ho]; go_simp) HS.out ?_
      simp only [Act.put, List.setIfInBounds_toArray, List.set_cons_zero, List.set_cons_succ]
      refine wpAnyH_done (by kernel_rfl) ?_ _
      go_upto_region 10 with fail
      (try dsimp only [Act.put, List.setIfInBounds_toArray, List.set_cons_zero, List.set_cons_succ])
      have HS := Lib.hid HS.out.drew
      refine anyH_begin (S := FD w leaf g10 s la n l (some ⟨wb, wo, none⟩) L way g12 d g15 A) (by kernel_rfl) ?_
      refine anyH_loadG 0 (d := 72) (ty := 22) (x := (.tmp 12)) (gd := none) (p := .pointer (some ⟨g12, 0, none⟩)) (.agg (cellsOf d).toArray) (by rfl) (fun o ho => wanted_plain ho _) (by kernel_rfl) (by kernel_rfl) (by kernel_rfl) (fun _ _ _ h => h) (by rfl) HLD.out HS.out ?_
      simp only [Act.put, List.setIfInBounds_toArray, List.set_cons_zero, List.set_cons_succ]
      refine anyH_loadG 1 (d := 73) (ty := 22) (x := (.tmp 10)) (gd := none) (p := .pointer (some ⟨g10, 0, none⟩)) (.agg (cellsOf s).toArray) (by rfl) (fun o ho => wanted_plain ho _) (by kernel_rfl) (by kernel_rfl) (by kernel_rfl) (fun _ _ _ h => h) (by rfl) HLS.out HS.out ?_
      simp only [Act.put, List.setIfInBounds_toArray, List.set_cons_zero, List.set_cons_succ]
      refine anyH_loadG 3 (d := 75) (ty := 22) (x := (.tmp 15)) (gd := none) (p := .pointer (some ⟨g15, 0, none⟩)) (.agg (cellsOf A).toArray) (by rfl) (fun o ho => wanted_plain ho _) (by kernel_rfl) (by kernel_rfl) (by kernel_rfl) (fun _ _ _ h => h) (by rfl) HLA.out HS.out ?_
      simp only [Act.put, List.setIfInBounds_toArray, List.set_cons_zero, List.set_cons_succ]
      refine anyH_pureG 4 (d := 76) (op := .move (.tmp 0)) (gd := none) (.slice la n lc) (by rfl) (fun o ho => wanted_plain ho _) (by kernel_rfl) (by kernel_rfl) (by kernel_rfl) (fun _ _ _ h => h) (fun o ho W hW => by unfold execOp; simp only [ho]; go_simp) HS.out ?_
      simp only [Act.put, List.setIfInBounds_toArray, List.set_cons_zero, List.set_cons_succ]
      refine anyH_pureG 5 (d := 77) (op := .move (.tmp 9)) (gd := none) (.int .i64 (k : Int)) (by rfl) (fun o ho => wanted_plain ho _) (by kernel_rfl) (by kernel_rfl) (by kernel_rfl) (fun _ _ _ h => h) (fun o ho W hW => by unfold execOp; simp only [ho]; go_simp) HS.out ?_
      simp only [Act.put, List.setIfInBounds_toArray, List.set_cons_zero, List.set_cons_succ]
      refine anyH_pureG 6 (d := 78) (op := .slice 24 (.tmp 76) (some (.tmp 77)) none none) (gd := none) (.slice (sld la lc k) (n - k) (lc - k)) (by rfl) (fun o ho => wanted_plain ho _) (by kernel_rfl) (by kernel_rfl) (by kernel_rfl) (fun _ _ _ h => h) (fun o ho W hW => exec_dcut dtR (x := .tmp 76) (y := .tmp 77) la n lc k (by omega) _ (by rfl) (by rfl) o ho W) HS.out ?_
      simp only [Act.put, List.setIfInBounds_toArray, List.set_cons_zero, List.set_cons_succ]
      refine anyH_callG 2 (d := some 74) (f := 41) (xs := #[(.tmp 72), (.tmp 73)]) (ts := #[22, 22]) (gd := none) (vs := #[.agg (cellsOf d).toArray, .agg (cellsOf s).toArray]) (by kernel_rfl) (by rfl) (fun o ho => wanted_plain ho _) (by go_simp) (by go_simp) (pairR_c d s _ HDD.out HSD.out) ?_
      rintro e82 w82 ⟨p1, q1, rfl, hrd82, hb82⟩
      refine ⟨_, rfl, HS.out.step hb82, fun hS82 => ?_⟩
      have HS := Lib.hid hS82
      have HP1 := Lib.hid hrd82
      clear hS82 hb82 hrd82
      simp only [Act.put, List.setIfInBounds_toArray, List.set_cons_zero, List.set_cons_succ]
      refine anyH_callG 7 (d := some 79) (f := 19) (xs := #[(.tmp 78)]) (ts := #[24]) (gd := none) (vs := #[.slice (sld la lc k) (n - k) (lc - k)]) (by kernel_rfl) (by rfl) (fun o ho => wanted_plain ho _) (by go_simp) (by go_simp) (HRR.out _ HS.out.1.2.2.1) ?_
      rintro e83 w83 ⟨rfl, hb83⟩
      refine ⟨_, rfl, HS.out.step hb83, fun hS83 => ?_⟩
      have HS := Lib.hid hS83
      have HP1 := Lib.hid (HP1.out.below hb83)
      clear hS83 hb83
      simp only [Act.put, List.setIfInBounds_toArray, List.set_cons_zero, List.set_cons_succ]
      refine anyH_callG 8 (d := some 80) (f := 41) (xs := #[(.tmp 75), (.tmp 79)]) (ts := #[22, 22]) (gd := none) (vs := #[.agg (cellsOf A).toArray, .agg (cellsOf R).toArray]) (by kernel_rfl) (by rfl) (fun o ho => wanted_plain ho _) (by go_simp) (by go_simp) (pairR_c A R _ HAD.out HRD.out) ?_
      rintro e84 w84 ⟨p2, q2, rfl, hrd84, hb84⟩
      refine ⟨_, rfl, HS.out.step hb84, fun hS84 => ?_⟩
      have HS := Lib.hid hS84
      have HP2 := Lib.hid hrd84
      have HP1 := Lib.hid (HP1.out.below hb84)
      clear hS84 hb84 hrd84
      simp only [Act.put, List.setIfInBounds_toArray, List.set_cons_zero, List.set_cons_succ]
      refine anyH_callG 9 (d := some 81) (f := 44) (xs := #[(.tmp 74), (.tmp 80)]) (ts := #[75, 75]) (gd := none) (vs := #[.slice p1 65 q1, .slice p2 65 q2]) (by kernel_rfl) (by rfl) (fun o ho => wanted_plain ho _) (by go_simp) (by go_simp) (apart_c p1 p2 65 q1 q2 _ _ _ HP1.out HP2.out HSUM.out HNEQ.out (by omega)) ?_
      rintro e85 w85 ⟨rfl, hb85⟩
      refine ⟨_, rfl, HS.out.step hb85, fun hS85 => ?_⟩
      have HS := Lib.hid hS85
      clear hS85 hb85
      simp only [Act.put, List.setIfInBounds_toArray, List.set_cons_zero, List.set_cons_succ]
      refine anyH_pureG 10 (d := 8) (op := .assign (.tmp 81)) (gd := none) (.bool true) (by rfl) (fun o ho => wanted_plain ho _) (by kernel_rfl) (by kernel_rfl) (by kernel_rfl) (fun _ _ _ h => h) (fun o ho W hW => by unfold execOp; simp only [ho]; go_simp) HS.out ?_
      simp only [Act.put, List.setIfInBounds_toArray, List.set_cons_zero, List.set_cons_succ]
      refine wpAnyH_done (by kernel_rfl) ?_ _
      go_wp2
      go_ret
      exact ⟨rfl, HS.out.1.2.2.2.2⟩
  · rw [decide_eq_false hdA] at HDA
    obtain ⟨hsum, hneq⟩ := HE.out.resolve_left (fun h => hdA h.1)
    have HSUM := Lib.hid hsum
    have HNEQ := Lib.hid hneq
    clear hsum hneq HE HREC
    clear hdA
    refine anyH_begin (S := FD w leaf g10 s la n l (some ⟨wb, wo, none⟩) L way g12 d g15 A) (by kernel_rfl) ?_
    refine anyH_pureG 0 (d := 58) (op := .move (.tmp 14)) (gd := none) (.bool true) (by rfl) (fun o ho => wanted_plain ho _) (by kernel_rfl) (by kernel_rfl) (by kernel_rfl) (fun _ _ _ h => h) (fun o ho W hW => by unfold execOp; simp only [ho]; go_simp) HS.out ?_
    simp only [Act.put, List.setIfInBounds_toArray, List.set_cons_zero, List.set_cons_succ]
    refine anyH_pureG 1 (d := 59) (op := .move (.tmp 58)) (gd := none) (.bool true) (by rfl) (fun o ho => wanted_plain ho _) (by kernel_rfl) (by kernel_rfl) (by kernel_rfl) (fun _ _ _ h => h) (fun o ho W hW => by unfold execOp; simp only [ho]; go_simp) HS.out ?_
    simp only [Act.put, List.setIfInBounds_toArray, List.set_cons_zero, List.set_cons_succ]
    refine anyH_loadG 2 (d := 60) (ty := 22) (x := (.tmp 12)) (gd := some (1, true)) (p := .pointer (some ⟨g12, 0, none⟩)) (.agg (cellsOf d).toArray) (by rfl) (fun o ho => by simp only [Region.wanted, ho]; rfl) (by kernel_rfl) (by kernel_rfl) (by kernel_rfl) (fun _ _ _ h => h) (by rfl) HLD.out HS.out ?_
    simp only [Act.put, List.setIfInBounds_toArray, List.set_cons_zero, List.set_cons_succ]
    refine anyH_loadG 3 (d := 61) (ty := 22) (x := (.tmp 15)) (gd := some (1, true)) (p := .pointer (some ⟨g15, 0, none⟩)) (.agg (cellsOf A).toArray) (by rfl) (fun o ho => by simp only [Region.wanted, ho]; rfl) (by kernel_rfl) (by kernel_rfl) (by kernel_rfl) (fun _ _ _ h => h) (by rfl) HLA.out HS.out ?_
    simp only [Act.put, List.setIfInBounds_toArray, List.set_cons_zero, List.set_cons_succ]
    refine anyH_neqG 4 (d := 62) (t := 22) (t' := 22) (x := (.tmp 60)) (y := (.tmp 61)) (gd := some (1, true)) ((cellsOf d).toArray) ((cellsOf A).toArray) false (by rfl) (fun o ho => by simp only [Region.wanted, ho]; rfl) (by kernel_rfl) (by kernel_rfl) (by kernel_rfl) (fun _ _ _ h => h) (by rfl) (by rfl) HGT.out HDA.out HS.out ?_
    simp only [Act.put, List.setIfInBounds_toArray, List.set_cons_zero, List.set_cons_succ]
    refine anyH_pureG 5 (d := 63) (op := .move (.tmp 62)) (gd := some (1, true)) (.bool true) (by rfl) (fun o ho => by simp only [Region.wanted, ho]; rfl) (by kernel_rfl) (by kernel_rfl) (by kernel_rfl) (fun _ _ _ h => h) (fun o ho W hW => by unfold execOp; simp only [ho]; go_simp) HS.out ?_
    simp only [Act.put, List.setIfInBounds_toArray, List.set_cons_zero, List.set_cons_succ]
    refine anyH_skip 6 (d := 64) (op := .load 22 (.tmp 10)) (gd := some (5, false)) (by rfl) (fun o ho => by simp only [Region.wanted, ho]; rfl) (by kernel_rfl) (by kernel_rfl) (by kernel_rfl) (fun _ _ _ h => h) HS.out ?_
    simp only [Act.put, List.setIfInBounds_toArray, List.set_cons_zero, List.set_cons_succ]
    refine anyH_skip 7 (d := 65) (op := .move (.tmp 0)) (gd := some (5, false)) (by rfl) (fun o ho => by simp only [Region.wanted, ho]; rfl) (by kernel_rfl) (by kernel_rfl) (by kernel_rfl) (fun _ _ _ h => h) HS.out ?_
    simp only [Act.put, List.setIfInBounds_toArray, List.set_cons_zero, List.set_cons_succ]
    refine anyH_skip 8 (d := 66) (op := .move (.tmp 9)) (gd := some (5, false)) (by rfl) (fun o ho => by simp only [Region.wanted, ho]; rfl) (by kernel_rfl) (by kernel_rfl) (by kernel_rfl) (fun _ _ _ h => h) HS.out ?_
    simp only [Act.put, List.setIfInBounds_toArray, List.set_cons_zero, List.set_cons_succ]
    refine anyH_skip 9 (d := 67) (op := .slice 24 (.tmp 65) (some (.tmp 66)) none none) (gd := some (5, false)) (by rfl) (fun o ho => by simp only [Region.wanted, ho]; rfl) (by kernel_rfl) (by kernel_rfl) (by kernel_rfl) (fun _ _ _ h => h) HS.out ?_
    simp only [Act.put, List.setIfInBounds_toArray, List.set_cons_zero, List.set_cons_succ]
    refine anyH_skip 10 (d := 68) (op := .call { callee := .value (.func 19), args := #[(.tmp 67)], argTypes := #[24] }) (gd := some (5, false)) (by rfl) (fun o ho => by simp only [Region.wanted, ho]; rfl) (by kernel_rfl) (by kernel_rfl) (by kernel_rfl) (fun _ _ _ h => h) HS.out ?_
    simp only [Act.put, List.setIfInBounds_toArray, List.set_cons_zero, List.set_cons_succ]
    refine anyH_skip 11 (d := 69) (op := .binOp .neq 22 (.tmp 64) (.tmp 68) 22) (gd := some (5, false)) (by rfl) (fun o ho => by simp only [Region.wanted, ho]; rfl) (by kernel_rfl) (by kernel_rfl) (by kernel_rfl) (fun _ _ _ h => h) HS.out ?_
    simp only [Act.put, List.setIfInBounds_toArray, List.set_cons_zero, List.set_cons_succ]
    refine anyH_pureG 12 (d := 70) (op := .pick (.tmp 63) (.const (.bool true)) (.tmp 69)) (gd := some (1, true)) (.bool true) (by rfl) (fun o ho => by simp only [Region.wanted, ho]; rfl) (by kernel_rfl) (by kernel_rfl) (by kernel_rfl) (fun _ _ _ h => h) (fun o ho W hW => by unfold execOp; simp only [ho]; go_simp) HS.out ?_
    simp only [Act.put, List.setIfInBounds_toArray, List.set_cons_zero, List.set_cons_succ]
    refine anyH_pureG 13 (d := 71) (op := .pick (.tmp 59) (.tmp 70) (.const (.bool false))) (gd := none) (.bool true) (by rfl) (fun o ho => wanted_plain ho _) (by kernel_rfl) (by kernel_rfl) (by kernel_rfl) (fun _ _ _ h => h) (fun o ho W hW => by unfold execOp; simp only [ho]; go_simp) HS.out ?_
    simp only [Act.put, List.setIfInBounds_toArray, List.set_cons_zero, List.set_cons_succ]
    refine wpAnyH_done (by kernel_rfl) ?_ _
    go_upto_region 10 with fail
    (try dsimp only [Act.put, List.setIfInBounds_toArray, List.set_cons_zero, List.set_cons_succ])
    have HS := Lib.hid HS.out.drew
    refine anyH_begin (S := FD w leaf g10 s la n l (some ⟨wb, wo, none⟩) L way g12 d g15 A) (by kernel_rfl) ?_
    refine anyH_loadG 0 (d := 72) (ty := 22) (x := (.tmp 12)) (gd := none) (p := .pointer (some ⟨g12, 0, none⟩)) (.agg (cellsOf d).toArray) (by rfl) (fun o ho => wanted_plain ho _) (by kernel_rfl) (by kernel_rfl) (by kernel_rfl) (fun _ _ _ h => h) (by rfl) HLD.out HS.out ?_
    simp only [Act.put, List.setIfInBounds_toArray, List.set_cons_zero, List.set_cons_succ]
    refine anyH_loadG 1 (d := 73) (ty := 22) (x := (.tmp 10)) (gd := none) (p := .pointer (some ⟨g10, 0, none⟩)) (.agg (cellsOf s).toArray) (by rfl) (fun o ho => wanted_plain ho _) (by kernel_rfl) (by kernel_rfl) (by kernel_rfl) (fun _ _ _ h => h) (by rfl) HLS.out HS.out ?_
    simp only [Act.put, List.setIfInBounds_toArray, List.set_cons_zero, List.set_cons_succ]
    refine anyH_loadG 3 (d := 75) (ty := 22) (x := (.tmp 15)) (gd := none) (p := .pointer (some ⟨g15, 0, none⟩)) (.agg (cellsOf A).toArray) (by rfl) (fun o ho => wanted_plain ho _) (by kernel_rfl) (by kernel_rfl) (by kernel_rfl) (fun _ _ _ h => h) (by rfl) HLA.out HS.out ?_
    simp only [Act.put, List.setIfInBounds_toArray, List.set_cons_zero, List.set_cons_succ]
    refine anyH_pureG 4 (d := 76) (op := .move (.tmp 0)) (gd := none) (.slice la n lc) (by rfl) (fun o ho => wanted_plain ho _) (by kernel_rfl) (by kernel_rfl) (by kernel_rfl) (fun _ _ _ h => h) (fun o ho W hW => by unfold execOp; simp only [ho]; go_simp) HS.out ?_
    simp only [Act.put, List.setIfInBounds_toArray, List.set_cons_zero, List.set_cons_succ]
    refine anyH_pureG 5 (d := 77) (op := .move (.tmp 9)) (gd := none) (.int .i64 (k : Int)) (by rfl) (fun o ho => wanted_plain ho _) (by kernel_rfl) (by kernel_rfl) (by kernel_rfl) (fun _ _ _ h => h) (fun o ho W hW => by unfold execOp; simp only [ho]; go_simp) HS.out ?_
    simp only [Act.put, List.setIfInBounds_toArray, List.set_cons_zero, List.set_cons_succ]
    refine anyH_pureG 6 (d := 78) (op := .slice 24 (.tmp 76) (some (.tmp 77)) none none) (gd := none) (.slice (sld la lc k) (n - k) (lc - k)) (by rfl) (fun o ho => wanted_plain ho _) (by kernel_rfl) (by kernel_rfl) (by kernel_rfl) (fun _ _ _ h => h) (fun o ho W hW => exec_dcut dtR (x := .tmp 76) (y := .tmp 77) la n lc k (by omega) _ (by rfl) (by rfl) o ho W) HS.out ?_
    simp only [Act.put, List.setIfInBounds_toArray, List.set_cons_zero, List.set_cons_succ]
    refine anyH_callG 2 (d := some 74) (f := 41) (xs := #[(.tmp 72), (.tmp 73)]) (ts := #[22, 22]) (gd := none) (vs := #[.agg (cellsOf d).toArray, .agg (cellsOf s).toArray]) (by kernel_rfl) (by rfl) (fun o ho => wanted_plain ho _) (by go_simp) (by go_simp) (pairR_c d s _ HDD.out HSD.out) ?_
    rintro e82 w82 ⟨p1, q1, rfl, hrd82, hb82⟩
    refine ⟨_, rfl, HS.out.step hb82, fun hS82 => ?_⟩
    have HS := Lib.hid hS82
    have HP1 := Lib.hid hrd82
    clear hS82 hb82 hrd82
    simp only [Act.put, List.setIfInBounds_toArray, List.set_cons_zero, List.set_cons_succ]
    refine anyH_callG 7 (d := some 79) (f := 19) (xs := #[(.tmp 78)]) (ts := #[24]) (gd := none) (vs := #[.slice (sld la lc k) (n - k) (lc - k)]) (by kernel_rfl) (by rfl) (fun o ho => wanted_plain ho _) (by go_simp) (by go_simp) (HRR.out _ HS.out.1.2.2.1) ?_
    rintro e83 w83 ⟨rfl, hb83⟩
    refine ⟨_, rfl, HS.out.step hb83, fun hS83 => ?_⟩
    have HS := Lib.hid hS83
    have HP1 := Lib.hid (HP1.out.below hb83)
    clear hS83 hb83
    simp only [Act.put, List.setIfInBounds_toArray, List.set_cons_zero, List.set_cons_succ]
    refine anyH_callG 8 (d := some 80) (f := 41) (xs := #[(.tmp 75), (.tmp 79)]) (ts := #[22, 22]) (gd := none) (vs := #[.agg (cellsOf A).toArray, .agg (cellsOf R).toArray]) (by kernel_rfl) (by rfl) (fun o ho => wanted_plain ho _) (by go_simp) (by go_simp) (pairR_c A R _ HAD.out HRD.out) ?_
    rintro e84 w84 ⟨p2, q2, rfl, hrd84, hb84⟩
    refine ⟨_, rfl, HS.out.step hb84, fun hS84 => ?_⟩
    have HS := Lib.hid hS84
    have HP2 := Lib.hid hrd84
    have HP1 := Lib.hid (HP1.out.below hb84)
    clear hS84 hb84 hrd84
    simp only [Act.put, List.setIfInBounds_toArray, List.set_cons_zero, List.set_cons_succ]
    refine anyH_callG 9 (d := some 81) (f := 44) (xs := #[(.tmp 74), (.tmp 80)]) (ts := #[75, 75]) (gd := none) (vs := #[.slice p1 65 q1, .slice p2 65 q2]) (by kernel_rfl) (by rfl) (fun o ho => wanted_plain ho _) (by go_simp) (by go_simp) (apart_c p1 p2 65 q1 q2 _ _ _ HP1.out HP2.out HSUM.out HNEQ.out (by omega)) ?_
    rintro e85 w85 ⟨rfl, hb85⟩
    refine ⟨_, rfl, HS.out.step hb85, fun hS85 => ?_⟩
    have HS := Lib.hid hS85
    clear hS85 hb85
    simp only [Act.put, List.setIfInBounds_toArray, List.set_cons_zero, List.set_cons_succ]
    refine anyH_pureG 10 (d := 8) (op := .assign (.tmp 81)) (gd := none) (.bool true) (by rfl) (fun o ho => wanted_plain ho _) (by kernel_rfl) (by kernel_rfl) (by kernel_rfl) (fun _ _ _ h => h) (fun o ho W hW => by unfold execOp; simp only [ho]; go_simp) HS.out ?_
    simp only [Act.put, List.setIfInBounds_toArray, List.set_cons_zero, List.set_cons_succ]
    refine wpAnyH_done (by kernel_rfl) ?_ _
    go_wp2
    go_ret
    exact ⟨rfl, HS.out.1.2.2.2.2⟩
end Go.Proofs.YtdcninfbpmhojaaDoor
