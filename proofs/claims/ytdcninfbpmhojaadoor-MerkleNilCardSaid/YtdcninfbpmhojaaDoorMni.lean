/-
  The walk over MerkleNil.
-/
import Derived.Test.YtdcninfbpmhojaaDoorFad
import Derived.Test.YtdcninfbpmhojaaDoorFrr
import Derived.Test.YtdcninfbpmhojaaDoorFds
namespace Go.Proofs.YtdcninfbpmhojaaDoor
open Go.RowKit
set_option linter.unusedVariables false
/-- while leaves are added: the frontier at gf, the one without leaves at gg -/
def NS (w : World) (gf gg B : Nat) (a1 : Option Addr) (n1 : Nat) (es : Ds) (k : Nat) (v : Value) (ds : Ds) (W : World) : Prop :=
  FR W gf k v ∧ OwnD W B 30 v ds ∧ (ds.length = ones k ∧ ∀ d ∈ ds, D32 d) ∧ FR W gg 0 (.slice none 0 0) ∧ DR W a1 n1 es ∧ Below w.heap.size w W ∧ B ≤ W.heap.size
theorem NS.step {w W W' : World} {gf gg B : Nat} {a1 : Option Addr} {n1 : Nat} {es : Ds} {k : Nat} {v : Value} {ds : Ds} (h : NS w gf gg B a1 n1 es k v ds W) (hb : Below W.heap.size W W') : NS w gf gg B a1 n1 es k v ds W' :=
  ⟨h.1.below hb h.1.lt, h.2.1.below hb (Nat.le_refl _), h.2.2.1, h.2.2.2.1.below hb h.2.2.2.1.lt, h.2.2.2.2.1.below hb, h.2.2.2.2.2.1.trans (hb.mono h.2.2.2.2.2.1.size), Nat.le_trans h.2.2.2.2.2.2 hb.size⟩
set_option maxRecDepth 100000 in
set_option maxHeartbeats 8000000 in
theorem nil_in (la : Option Addr) (ln lc : Nat) (ls : Ds) (w : World) (r : DigsIn w la ln lc ls) (ht : Tab w) :
    Calls Tryd.prog 8 #[.slice la ln lc] w fun e w' => e = .returned (.bool true) ∧ Below w.heap.size w w' := by
  obtain ⟨hl, hlnil, hllc, hlcm⟩ := r
  have HT := Lib.hid ht
  have hpos := ht.pos
  obtain ⟨q1, hq1⟩ : ∃ q : Nat, q = min ln 70 := ⟨_, rfl⟩
  have HC1 := Lib.hid (show ∀ W, Below w.heap.size w W → Calls Tryd.prog 9 #[.slice la ln lc, .int .i64 70] W (RetDs 22 (ls.take q1) W) from fun W hW => cut_c ln q1 70 ls la lc W (hl.below hW) hllc hlnil (by omega) (by omega))
  obtain ⟨es, hes⟩ : ∃ es, es = ls.take q1 := ⟨_, rfl⟩
  rw [← hes] at HC1
  have HES := Lib.hid (show ∀ d ∈ es, D32 d from by rw [hes]; exact d32_take hl.2.1 q1)
  have hel : es.length = q1 := by rw [hes, List.length_take, hl.1]; omega
  have hq170 : q1 ≤ 70 := by omega
  have HGT := Lib.hid (show Tryd.prog.eqGuardType Tryd.prog.depth 30 = false by kernel_rfl)
  obtain ⟨S, hS⟩ : ∃ S, S = Sha.sum [] := ⟨_, rfl⟩
  have HSD := Lib.hid (show D32 S from by rw [hS]; exact d32_sum _)
  have HEQ := Lib.hid (fun W => eqD dtA W HSD.out)
  have HRT := Lib.hid (show ∀ W, Below w.heap.size w W → Calls Tryd.prog 32 #[.slice none 0 0] W (DigRet S W) from fun W hW => by rw [hS, ← rootS_nil]; exact root_c 0 [] none 0 W (DR.nil W) (by omega) (by omega) (ht.below hW ht.pos))
  have HFN := Lib.hid (show ∀ W, Below w.heap.size w W → Calls Tryd.prog 18 #[.pointer none] W (DigRet S W) from fun W hW => by rw [hS]; exact froot_none W (ht.below hW ht.pos))
  have HFZ := Lib.hid (show ∀ W g v, Below w.heap.size w W → FR W g 0 v → Calls Tryd.prog 18 #[.pointer (some ⟨g, 0, none⟩)] W (DigRet S W) from fun W g v hW hF => by rw [hS]; exact froot_zero g v W hF (ht.below hW ht.pos))
  clear hl hlnil ht hq1 hes hS
  go_enter Tryd.func8, Tryd.ntmps8
  go_wp2_with fail
  refine (fnew_c _).mono ?_
  rintro e w1 ⟨rfl, hf1, hb1⟩
  go_wp2_with fail
  refine (fnew_c _).mono ?_
  rintro e w2 ⟨rfl, hg2, hb2⟩
  obtain ⟨gf, hgf⟩ : ∃ gf, gf = w.heap.size := ⟨_, rfl⟩
  obtain ⟨gg, hgg⟩ : ∃ gg, gg = w1.heap.size := ⟨_, rfl⟩
  have hfg : gf < gg := by rw [hgf, hgg]; exact hf1.lt
  have HF2 := Lib.hid (show FR w2 gf 0 (.slice none 0 0) from by rw [hgf]; exact hf1.below hb2 hf1.lt)
  have HG2 := Lib.hid (show FR w2 gg 0 (.slice none 0 0) from by rw [hgg]; exact hg2)
  have HB2 := Lib.hid (hb1.trans (hb2.mono hb1.size))
  have HGF := Lib.hid hgf
  rw [← hgf, ← hgg]
  clear hf1 hg2 hb1 hb2 hgg hgf
  go_wp2_with fail
  refine (HC1.out _ HB2.out).mono ?_
  rintro e w3 ⟨v1, rfl, hov1, hb3⟩
  obtain ⟨a1, n1, c1, rfl, hnn1, hc1, hc1m, _, hr1⟩ := hov1.form HES.out
  have HAB := Lib.hid (show ∀ b, blkOf a1 = some b → gg < b ∧ b < w3.heap.size from fun b hb => by
    have h := hov1.block b (by cases a1 with | none => simp [blkOf] at hb | some a => simpa [blkOf, Value.ownBlock] using hb)
    exact ⟨Nat.lt_of_lt_of_le HG2.out.lt h.1, h.2⟩)
  obtain ⟨B, hB⟩ : ∃ B, B = w3.heap.size := ⟨_, rfl⟩
  have hggB : gg < B := by rw [hB]; exact Nat.lt_of_lt_of_le HG2.out.lt hb3.size
  have HS := Lib.hid (show NS w gf gg B a1 n1 es 0 (.slice none 0 0) [] w3 from ⟨HF2.out.below hb3 HF2.out.lt, OwnD.nil _ _ _, ⟨by rw [ones_zero]; rfl, by simp⟩, HG2.out.below hb3 HG2.out.lt, hr1, HB2.out.trans (hb3.mono HB2.out.size), by rw [hB]; exact Nat.le_refl _⟩)
  rw [← hB] at HAB
  have hn170 : n1 ≤ 70 := by omega
  clear hov1 hb3 hr1 HF2 HG2 HB2 HC1 hB hel hnn1
  go_wp2_with fail
  go_loopw [13] (fun iv wr => ∃ (k : Nat) (v : Value) (ds : Ds), k ≤ n1 ∧ iv = .int .i64 k ∧ Hid (NS w gf gg B a1 n1 es k v ds wr)) (fun iv _ => n1 - (intOf iv).toNat)
  case atStart => exact ⟨0, _, _, Nat.zero_le _, rfl, HS⟩
  case round =>
    clear HS
    obtain ⟨k, v, ds, hk, rfl, HS⟩ := hrel
    by_cases hkn : k < n1
    · obtain ⟨lb, lo, rfl, _, _⟩ := HS.out.2.2.2.2.1.at 0 (by omega)
      obtain ⟨x, hx⟩ : ∃ x, x = es.getD k [] := ⟨_, rfl⟩
      have hl1 : es.length = n1 := HS.out.2.2.2.2.1.1
      have HX := Lib.hid (show D32 x from by rw [hx]; exact D32.get HES.out k (by omega))
      have kI := fun W => run_dindex dtR W lb lo n1 c1 k hkn
      have HLX0 := Lib.hid (run_dload dtR wr lb (lo + k * 32) x HX.out (by
        obtain ⟨b', o', h1, _, h3⟩ := HS.out.2.2.2.2.1.at k hkn
        simp only [Option.some.injEq, Addr.mk.injEq, and_true] at h1
        obtain ⟨rfl, rfl⟩ := h1
        rw [hx]
        exact h3))
      have HIX := Lib.hid (info32 dtR HX.out)
      have HZX := Lib.hid (zsize HX.out)
      clear hx hl1
      go_upto_region 6 with (first | (refine wpList_loadg 22 _ (by rfl) (by rfl) (.pointer (some ⟨lb, lo + k * 32, none⟩)) (by rfl) (.agg (cellsOf x).toArray) HLX0.out ?_) | (refine wpList_store_row (by rfl) 22 _ _ (by rfl) wr.heap.size (cellsOf x).toArray (by rfl) (by rfl) 22 (cellsOf zs32).toArray (by exact heap_new _ _) HIX.out HZX.out (cellsOf_all _) ?_))
      obtain ⟨gx, hgx⟩ : ∃ g, g = wr.heap.size := ⟨_, rfl⟩
      refine gen_code (F := fun W => NS w gf gg B (some ⟨lb, lo, none⟩) n1 es k v ds W ∧ Brow W gx 22 x) (by
        rw [hgx]
        obtain ⟨h1, h2⟩ := lay32 wr x _ rfl
        exact ⟨HS.out.step h2, h1⟩) ?_
      rw [← hgx]
      rintro w5 ⟨hs5, hx5⟩
      have HS5 := Lib.hid hs5
      have HX5 := Lib.hid hx5
      have HTB := Lib.hid (HT.out.below hs5.2.2.2.2.2.1 hpos)
      clear hs5 hx5 HS hgx kI HLX0
      go_wp2_with (first | (refine wpList_load_row (by rfl) 22 _ (by rfl) gx (by rfl) _ (cellsOf x).toArray (0, 0) _ HX5.out Tryd.underlying22 (by rfl) HIX.out ?_))
      refine (fadd_c gf k B v ds x w5 HS5.out.1 HS5.out.2.1 (by omega) HS5.out.2.2.2.2.2.2 HX.out HS5.out.2.2.1.2 HS5.out.2.2.1.1 (Nat.lt_of_le_of_lt (show k ≤ 70 by omega) (by decide)) HTB.out (by rw [HGF.out]; exact hpos)).mono ?_
      rintro e w6 ⟨rfl, v6, hf6, ho6, hk6⟩
      have HS6 := Lib.hid (show NS w gf gg B (some ⟨lb, lo, none⟩) n1 es (k + 1) v6 (carryS 62 k ds x) w6 from ⟨hf6, ho6, ⟨carry_len 62 k ds x (Nat.lt_of_le_of_lt (show k ≤ 70 by omega) (by decide)) HS5.out.2.2.1.1, carry_d32 62 k ds x HS5.out.2.2.1.2 HX.out⟩, hk6.fr HS5.out.2.2.2.1 hggB (by omega), hk6.dr HS5.out.2.2.2.2.1 (fun b hb => by have := HAB.out b hb; omega), HS5.out.2.2.2.2.2.1.trans (hk6.below (by rw [← HGF.out]; omega) (by rw [HGF.out]; exact Nat.le_refl _)), Nat.le_trans HS5.out.2.2.2.2.2.2 hk6.size⟩)
      clear hf6 ho6 hk6 HS5 HX5
      go_wp2
      go_roundw
      case rel => exact ⟨k + 1, _, _, by omega, by go_num, HS6⟩
      case measure => simp [intOf]; omega
    · obtain rfl : k = n1 := by omega
      have HG := Lib.hid (show FR wr gg 0 (.slice none 0 0) ∧ Below w.heap.size w wr from ⟨HS.out.2.2.2.1, HS.out.2.2.2.2.2.1⟩)
      clear HS
      have hbz := build_zero
      go_wp2_with fail
      refine (awake3_c _ (HT.out.below HG.out.2 hpos)).mono ?_
      rintro e wa ⟨rfl, hba⟩
      have HG := Lib.hid (show FR wa gg 0 (.slice none 0 0) ∧ Below w.heap.size w wa from ⟨HG.out.1.below hba HG.out.1.lt, HG.out.2.trans (hba.mono HG.out.2.size)⟩)
      clear hba
      go_wp2_with fail
      refine (add_none zs32 _).mono ?_
      rintro e wb ⟨rfl, hbwb⟩
      have HG := Lib.hid (show FR wb gg 0 (.slice none 0 0) ∧ Below w.heap.size w wb from ⟨HG.out.1.below hbwb HG.out.1.lt, HG.out.2.trans (hbwb.mono HG.out.2.size)⟩)
      clear hbwb
      go_wp2_with fail
      refine (size_none _).mono ?_
      rintro e wc ⟨rfl, rfl⟩
      go_wp2_with fail
      refine (tops_none _).mono ?_
      rintro e wd ⟨rfl, rfl⟩
      go_wp2_with fail
      refine (HFN.out _ HG.out.2).mono ?_
      rintro e we ⟨rfl, hbwe⟩
      have HG := Lib.hid (show FR we gg 0 (.slice none 0 0) ∧ Below w.heap.size w we from ⟨HG.out.1.below hbwe HG.out.1.lt, HG.out.2.trans (hbwe.mono HG.out.2.size)⟩)
      clear hbwe
      go_wp2_with fail
      refine (HRT.out _ HG.out.2).mono ?_
      rintro e wf ⟨rfl, hbwf⟩
      have HG := Lib.hid (show FR wf gg 0 (.slice none 0 0) ∧ Below w.heap.size w wf from ⟨HG.out.1.below hbwf HG.out.1.lt, HG.out.2.trans (hbwf.mono HG.out.2.size)⟩)
      clear hbwf
      go_wp2_with (first | (refine wpList_eqg 30 _ _ _ (by rfl) (by rfl) (cellsOf S).toArray (cellsOf S).toArray (by rfl) (by rfl) HGT.out true (HEQ.out _) ?_))
      refine (fsize_c gg 0 _ _ HG.out.1).mono ?_
      rintro e wg ⟨rfl, rfl⟩
      go_wp2_with fail
      refine (HFZ.out _ gg _ HG.out.2 HG.out.1).mono ?_
      rintro e wh ⟨rfl, hbwh⟩
      have HG := Lib.hid (show FR wh gg 0 (.slice none 0 0) ∧ Below w.heap.size w wh from ⟨HG.out.1.below hbwh HG.out.1.lt, HG.out.2.trans (hbwh.mono HG.out.2.size)⟩)
      clear hbwh
      go_wp2_with fail
      refine (HRT.out _ HG.out.2).mono ?_
      rintro e wi ⟨rfl, hbwi⟩
      have HG := Lib.hid (show FR wi gg 0 (.slice none 0 0) ∧ Below w.heap.size w wi from ⟨HG.out.1.below hbwi HG.out.1.lt, HG.out.2.trans (hbwi.mono HG.out.2.size)⟩)
      clear hbwi
      go_wp2_with (first | (refine wpList_eqg 30 _ _ _ (by rfl) (by rfl) (cellsOf S).toArray (cellsOf S).toArray (by rfl) (by rfl) HGT.out true (HEQ.out _) ?_))
      go_ret
      exact ⟨rfl, HG.out.2⟩
end Go.Proofs.YtdcninfbpmhojaaDoor
