/-
  The walk over DigestLoads.
-/
import Derived.Test.YtealeefkeikcbabDoorDlr
namespace Go.Proofs.YtealeefkeikcbabDoor
open Go.RowKit
set_option linter.unusedVariables false
theorem put_num (zs : List Nat) (h : ∀ z ∈ zs, z < 256) : Numm.put (Numm.num 0 zs) zs.length = zs := by
  obtain ⟨k, hk⟩ : ∃ k, zs.length = k := ⟨_, rfl⟩
  induction k generalizing zs with
  | zero => obtain rfl := List.eq_nil_of_length_eq_zero hk; rfl
  | succ k ih =>
    have hne : zs ≠ [] := by intro e; rw [e] at hk; simp at hk
    have hz := List.dropLast_concat_getLast hne
    obtain ⟨ys, hys⟩ : ∃ ys, ys = zs.dropLast := ⟨_, rfl⟩
    obtain ⟨x, hx⟩ : ∃ x, x = zs.getLast hne := ⟨_, rfl⟩
    rw [← hys, ← hx] at hz
    have hx8 : x < 256 := by rw [hx]; exact h _ (List.getLast_mem hne)
    have hyl : ys.length = k := by rw [hys, List.length_dropLast]; omega
    have := ih ys (fun z hz' => h z (by rw [← hz]; exact List.mem_append_left _ hz')) hyl
    rw [← hz, List.length_append, List.length_singleton, hyl] 
    have e : Numm.num 0 (ys ++ [x]) = Numm.num 0 ys * 256 + x := by simp [Numm.num, List.foldl_append]
    rw [e, Numm.put, show (Numm.num 0 ys * 256 + x) / 256 = Numm.num 0 ys by omega, show (Numm.num 0 ys * 256 + x) % 256 = x by omega]
    rw [hyl] at this
    rw [this]
theorem take_fours (b : List Nat) (k : Nat) : ((List.range k).flatMap fun i => (b.drop (4 * i)).take 4) = b.take (4 * k) := by
  induction k with
  | zero => rfl
  | succ k ih => rw [List.range_succ, List.flatMap_append, ih, show 4 * (k + 1) = 4 * k + 4 by omega, List.take_add]; simp
theorem saved_at (b : List Nat) (hb : ∀ z ∈ b, z < 256) (h : 40 ≤ b.length) : saved (wordsAt b) (b.drop 40) (numAt b) = b := by
  have h1 : Sha.bytesOf (wordsAt b) = b.take 32 := by
    rw [← take_fours b 8]
    unfold Sha.bytesOf wordsAt
    rw [List.flatMap_map, List.flatMap_def, List.flatMap_def]
    congr 1
    apply List.map_congr_left
    intro i hi
    have hi8 : i < 8 := by simpa using hi
    have h4 := four_of b (4 * i) (by omega)
    have hp := put_num ((b.drop (4 * i)).take 4) (fun z hz => hb z (List.mem_of_mem_drop (List.mem_of_mem_take hz)))
    rw [List.length_take, List.length_drop, show min 4 (b.length - 4 * i) = 4 by omega] at hp
    rw [h4] at hp ⊢
    exact hp
  have h2 : Numm.put (numAt b) 8 = (b.drop 32).take 8 := by
    have hp := put_num ((b.drop 32).take 8) (fun z hz => hb z (List.mem_of_mem_drop (List.mem_of_mem_take hz)))
    rw [List.length_take, List.length_drop, show min 8 (b.length - 32) = 8 by omega] at hp
    exact hp
  unfold saved
  rw [h1, h2, ← List.take_add, List.take_append_drop]
/-- a state and the document's, at one -/
def DL (w : World) (g g7 : Nat) (hs tail : List Nat) (n : Nat) (va : Option Addr) (vl vc : Nat) (W : World) : Prop := StM W g hs tail n ∧ g < W.heap.size ∧ RS W g7 hs n (.slice va vl vc) ∧ Rd W va vl tail ∧ Below w.heap.size w W
theorem DL.below {w W W' : World} {g g7 : Nat} {hs tail : List Nat} {n : Nat} {va : Option Addr} {vl vc : Nat} (h : DL w g g7 hs tail n va vl vc W) (hb : Below W.heap.size W W') : DL w g g7 hs tail n va vl vc W' :=
  ⟨h.1.below hb h.2.1, Nat.lt_of_lt_of_le h.2.1 hb.size, h.2.2.1.below hb h.2.2.1.lt, h.2.2.2.1.below hb, h.2.2.2.2.trans (hb.mono h.2.2.2.2.size)⟩
theorem DL.drewN {w W : World} {g g7 : Nat} {hs tail : List Nat} {n : Nat} {va : Option Addr} {vl vc : Nat} (h : DL w g g7 hs tail n va vl vc W) (q : Nat) : DL w g g7 hs tail n va vl vc (W.drewN q) := by
  have hb : Below W.heap.size W (W.drewN q) := below_drewN' _ _ _
  exact h.below hb
theorem DL.drew {w W : World} {g g7 : Nat} {hs tail : List Nat} {n : Nat} {va : Option Addr} {vl vc : Nat} (h : DL w g g7 hs tail n va vl vc W) : DL w g g7 hs tail n va vl vc W.drew := h.below (Below.refl _ _).drew
theorem load_rs (W : World) (g : Nat) (hs : List Nat) (n : Nat) (v : Value) (h : RS W g hs n v) : (Instr.loadAt 88 (.pointer (some ⟨g, 0, none⟩))).run Tryd.prog W = .ok (.agg (rsCells hs n v).toArray) W :=
  run_loadAt_mid W g 0 88 (rsCells hs n v) _ (fun j u hu => by rw [Nat.zero_add, h.cellq]; exact hu) Tryd.underlying88 rfl (by rw [rsCells_len h.l8]; exact info_rs)
set_option maxRecDepth 100000 in
set_option maxHeartbeats 2000000 in
theorem loads_short (a : Option Addr) (len cap : Nat) (b : List Nat) (a1 : Option Addr) (len1 cap1 : Nat) (w : World) (r1 : Rd w a len b) (h : len < 40) (ht : Tab w) :
    Calls Tryd.prog 13 #[.slice a len cap, .slice a1 len1 cap1] w fun e w' => e = .returned (.bool true) ∧ Below w.heap.size w w' := by
  have HT := Lib.hid ht
  have hpos := ht.pos
  clear ht
  have HLD := Lib.hid (dload_short a len cap w h)
  have HRL := Lib.hid (show ∀ W, Below w.heap.size w W → Calls Tryd.prog 53 #[.slice a len cap] W (RlNo 9 W) from fun W hW => rload_short a len cap W h)
  have HI := Lib.hid (rs_info (H := zs8w) (n := 0) (v := nilv) (by simp [zs8w]))
  clear r1
  go_enter Tryd.func13, Tryd.ntmps13
  go_wp2_with fail
  refine HLD.out.mono ?_
  rintro e1 w1 ⟨rfl, hb1⟩
  have HBc := Lib.hid hb1
  have HR1 := Lib.hid (HRL.out w1 hb1)
  clear hb1
  go_wp2_with fail
  refine HR1.out.mono ?_
  rintro e2 w2 ⟨rfl, hb2⟩
  have HBc := Lib.hid (HBc.out.trans (hb2.mono HBc.out.size))
  have HLY := Lib.hid (fun (V : Obj) (hV : V = .cells (rsCells zs8w 0 nilv).toArray 88 (0, 0)) => show Below w.heap.size w ((w2.alloc V).setRow w2.heap.size (rsCells zs8w 0 nilv).toArray) from (by
    subst hV
    exact HBc.out.trans ((((Below.refl w2.heap.size w2).alloc (Nat.le_refl _) (.cells (rsCells zs8w 0 nilv).toArray 88 (0, 0))).setRow (Nat.le_refl _) _).mono HBc.out.size)))
  clear hb2 HR1
  go_upto_region 3 with (first | (refine wpList_store_row (by rfl) 88 _ _ (by rfl) w2.heap.size (rsCells zs8w 0 nilv).toArray (by rfl) (by rfl) 88 (rsCells zs8w 0 nilv).toArray (by exact heap_new _ _) HI.out rfl zs_rs ?_))
  refine gen_code (F := fun W => Below w.heap.size w W) (HLY.out _ rfl) ?_
  intro w3 hb3
  have HBc := Lib.hid hb3
  clear hb3 HLY
  go_wp2_with (first | (go_at_call 38; refine (awake2_c _ (HT.out.below HBc.out hpos)).mono ?_; rintro e wb ⟨rfl, hbb⟩; have HBc := Lib.hid (HBc.out.trans (hbb.mono HBc.out.size)); clear hbb))
  go_ret
  exact ⟨rfl, HBc.out⟩
set_option maxRecDepth 100000 in
set_option maxHeartbeats 2000000 in
theorem loads_form (a : Option Addr) (len cap : Nat) (b : List Nat) (a1 : Option Addr) (len1 cap1 : Nat) (w : World) (r1 : Rd w a len b) (h : 40 ≤ len) (hlc : len ≤ cap) (hcm : cap ≤ 9223372036854775807) (hlm : len ≤ 140737488355327) (hf : 2305843009213693951 < numAt b ∨ len - 40 ≠ numAt b % 64) (ht : Tab w) :
    Calls Tryd.prog 13 #[.slice a len cap, .slice a1 len1 cap1] w fun e w' => e = .returned (.bool true) ∧ Below w.heap.size w w' := by
  have HT := Lib.hid ht
  have hpos := ht.pos
  have HR := Lib.hid r1
  clear ht
  have HLD := Lib.hid (dload_form a len cap b w r1 h hlc hlm hf)
  have HRL := Lib.hid (show ∀ W, Below w.heap.size w W → Calls Tryd.prog 53 #[.slice a len cap] W (RlNo 10 W) from fun W hW => (rload_long a len cap b W (HR.out.below hW) h hlc hcm hlm).1 hf)
  have HI := Lib.hid (rs_info (H := zs8w) (n := 0) (v := nilv) (by simp [zs8w]))
  clear r1 hf
  go_enter Tryd.func13, Tryd.ntmps13
  go_wp2_with fail
  refine HLD.out.mono ?_
  rintro e1 w1 ⟨rfl, hb1⟩
  have HBc := Lib.hid hb1
  have HR1 := Lib.hid (HRL.out w1 hb1)
  clear hb1
  go_wp2_with fail
  refine HR1.out.mono ?_
  rintro e2 w2 ⟨rfl, hb2⟩
  have HBc := Lib.hid (HBc.out.trans (hb2.mono HBc.out.size))
  have HLY := Lib.hid (fun (V : Obj) (hV : V = .cells (rsCells zs8w 0 nilv).toArray 88 (0, 0)) => show Below w.heap.size w ((w2.alloc V).setRow w2.heap.size (rsCells zs8w 0 nilv).toArray) from (by
    subst hV
    exact HBc.out.trans ((((Below.refl w2.heap.size w2).alloc (Nat.le_refl _) (.cells (rsCells zs8w 0 nilv).toArray 88 (0, 0))).setRow (Nat.le_refl _) _).mono HBc.out.size)))
  clear hb2 HR1
  go_upto_region 3 with (first | (refine wpList_store_row (by rfl) 88 _ _ (by rfl) w2.heap.size (rsCells zs8w 0 nilv).toArray (by rfl) (by rfl) 88 (rsCells zs8w 0 nilv).toArray (by exact heap_new _ _) HI.out rfl zs_rs ?_))
  refine gen_code (F := fun W => Below w.heap.size w W) (HLY.out _ rfl) ?_
  intro w3 hb3
  have HBc := Lib.hid hb3
  clear hb3 HLY
  go_wp2_with (first | (go_at_call 38; refine (awake2_c _ (HT.out.below HBc.out hpos)).mono ?_; rintro e wb ⟨rfl, hbb⟩; have HBc := Lib.hid (HBc.out.trans (hbb.mono HBc.out.size)); clear hbb))
  go_ret
  exact ⟨rfl, HBc.out⟩
set_option maxRecDepth 100000 in
set_option maxHeartbeats 4000000 in
theorem loads_ok (a : Option Addr) (len cap : Nat) (b : List Nat) (a1 : Option Addr) (len1 cap1 : Nat) (z : List Nat) (w : World) (r1 : Rd w a len b) (h : 40 ≤ len) (hlc : len ≤ cap) (hcm : cap ≤ 9223372036854775807) (hlm : len ≤ 140737488355327) (hn : numAt b ≤ 2305843009213693951) (hq : len - 40 = numAt b % 64)
    (r2 : Rd w a1 len1 z) (hlc1 : len1 ≤ cap1) (hcm1 : cap1 ≤ 9223372036854775807) (hlm1 : len1 ≤ 140737488355327) (ht : Tab w) :
    Calls Tryd.prog 13 #[.slice a len cap, .slice a1 len1 cap1] w fun e w' => e = .returned (.bool true) ∧ Below w.heap.size w w' := by
  have HT := Lib.hid ht
  have hpos := ht.pos
  have HR := Lib.hid r1
  have HR2 := Lib.hid r2
  have HLD := Lib.hid (dload_ok a len cap b w r1 h hlc hcm hlm hn hq)
  have HRL := Lib.hid (show ∀ W, Below w.heap.size w W → Calls Tryd.prog 53 #[.slice a len cap] W (RlYes b W) from fun W hW => (rload_long a len cap b W (HR.out.below hW) h hlc hcm hlm).2 ⟨hn, hq⟩)
  obtain ⟨hs, hhs⟩ : ∃ hs, hs = wordsAt b := ⟨_, rfl⟩
  obtain ⟨n, hnn⟩ : ∃ n, n = numAt b := ⟨_, rfl⟩
  obtain ⟨tail, htl⟩ : ∃ tail, tail = b.drop 40 := ⟨_, rfl⟩
  have HW8 := Lib.hid (show Sha.W8 hs from by rw [hhs]; exact wordsAt_8 b r1.2.1)
  have HTB := Lib.hid (show ∀ z ∈ tail, z < 256 from by rw [htl]; exact fun z hz => r1.2.1 z (List.mem_of_mem_drop hz))
  have HTL := Lib.hid (show tail.length = n % 64 from by rw [htl, hnn, List.length_drop, r1.1, hq])
  have HSV := Lib.hid (show saved hs tail n = b from by rw [hhs, htl, hnn]; exact saved_at b r1.2.1 (by rw [r1.1]; exact h))
  unfold DlRet at HLD
  unfold RlYes at HRL
  rw [← hhs, ← hnn, ← htl] at HLD HRL
  rw [← hnn] at hn
  clear r1 r2 hq hhs hnn htl ht
  go_enter Tryd.func13, Tryd.ntmps13
  go_wp2_with fail
  refine HLD.out.mono ?_
  rintro e1 w1 ⟨g, rfl, hgw, hst, hb1⟩
  have HST := Lib.hid hst
  have hg1 : g < w1.heap.size := by
    obtain ⟨_, h, _⟩ := hst
    exact h.lt
  have HBc := Lib.hid hb1
  have HR1 := Lib.hid (HRL.out w1 hb1)
  clear hst hb1 HLD HRL
  go_wp2_with fail
  refine HR1.out.mono ?_
  rintro e2 w2 ⟨v, rfl, hov, hb2⟩
  obtain ⟨va, vl, vc, rfl, hvl, hvc, hvm, hvn, hvr, hvo⟩ := hov.form HTB.out
  have hvl64 : vl < 64 := by rw [← hvl, HTL.out]; exact Nat.mod_lt _ (by omega)
  have HVN := Lib.hid hvn
  obtain ⟨g7, hg7⟩ : ∃ g7, g7 = w2.heap.size := ⟨_, rfl⟩
  have hgg : g < g7 := by rw [hg7]; have := hb2.size; omega
  have HI := Lib.hid (rs_info (H := hs) (n := n) (v := .slice va vl vc) HW8.out.1)
  have HZ := Lib.hid (rs_size (H := zs8w) (H' := hs) (n := 0) (n' := n) (v := nilv) (v' := .slice va vl vc) (by simp [zs8w]) HW8.out.1)
  have HB2 := Lib.hid (HBc.out.trans (hb2.mono HBc.out.size))
  have HLY := Lib.hid (fun (V : Obj) (hV : V = .cells (rsCells zs8w 0 nilv).toArray 88 (0, 0)) => show DL w g w2.heap.size hs tail n va vl vc ((w2.alloc V).setRow w2.heap.size (rsCells hs n (.slice va vl vc)).toArray) from (by
    subst hV
    have hb := ((Below.refl w2.heap.size w2).alloc (Nat.le_refl _) (.cells (rsCells zs8w 0 nilv).toArray 88 (0, 0))).setRow (Nat.le_refl _) (rsCells hs n (.slice va vl vc)).toArray
    have hs1 := hb.size
    exact ⟨(HST.out.below hb2 hg1).below hb (by have := hb2.size; omega), by have := hb2.size; omega, ⟨setRow_heap _ _ _ _ _ _ (heap_new _ _), HW8.out.1⟩, hvr.below hb, HB2.out.trans (hb.mono HB2.out.size)⟩))
  have HVB := Lib.hid (show ∀ b off, va = some ⟨b, off, none⟩ → b ≠ g from by
    intro b' off hb'
    rcases hvo.2 with ⟨h0, _⟩ | ⟨gb, cp, cur, hv, hgb, _⟩
    · simp only [Value.slice.injEq] at h0; rw [h0.1] at hb'; cases hb'
    · simp only [Value.slice.injEq] at hv; rw [hv.1] at hb'; cases hb'; omega)
  clear hov hvl hvc hvm hvn hvr hb2 HST HR1 HBc hvo
  go_upto_region 3 with (first | (refine wpList_store_row (by rfl) 88 _ _ (by rfl) w2.heap.size (rsCells hs n (.slice va vl vc)).toArray (by rfl) (by rfl) 88 (rsCells zs8w 0 nilv).toArray (by exact heap_new _ _) HI.out HZ.out (rsCells_one _ _ _ _ _) ?_))
  refine gen_code (F := DL w g g7 hs tail n va vl vc) (by rw [hg7]; exact HLY.out _ rfl) ?_
  intro w3 h3
  have HS := Lib.hid h3
  rw [← hg7]
  clear h3 HLY hg7 HB2
  go_wp2_with (first | (go_at_call 38; refine (awake2_c _ (HT.out.below HS.out.2.2.2.2 hpos)).mono ?_; rintro e wb ⟨rfl, hbb⟩; have HS := Lib.hid (HS.out.below hbb); clear hbb))
  have hc8 : wb.cell? ⟨g7, 8, none⟩ = some (.int .u64 (n : Int)) := HS.out.2.2.1.num
  have hwl : IntKind.u64.wrap (len1 : Int) = (len1 : Int) := by rw [IntKind.wrap_u64]; omega
  by_cases hL : 2305843009213693951 - n < len1
  · have t1 : decide ((2305843009213693951 : Int) - (n : Int) < (len1 : Int)) = true := decide_eq_true (by omega)
    have HWL := Lib.hid (show Calls Tryd.prog 43 #[.pointer (some ⟨g, 0, none⟩), .slice a1 len1 cap1] wb (fun e w' => e = .returned (.int .i64 8) ∧ wb = w') from by
      obtain ⟨bs, h1, _⟩ := HS.out.1
      exact write_lim wb g hs bs n h1 a1 len1 cap1 hL (by omega))
    have HSA := Lib.hid ((save_c wb g hs tail n HS.out.1).mono (RetB.form (saved_byte _ _ _ HTB.out)))
    rw [HSV.out] at HSA
    refine HWL.out.mono ?_
    rintro e5 w5 ⟨rfl, rfl⟩
    have t2 : ((8 : Int) == 8) = true := rfl
    clear hL
    go_wp2_with fail
    refine HSA.out.mono ?_
    rintro e6 w6 ⟨fa, fn, fc, rfl, hfl, _, _, _, hfr, _, hb6⟩
    have HF := Lib.hid hfr
    have HB6 := Lib.hid (HS.out.2.2.2.2.trans (hb6.mono HS.out.2.2.2.2.size))
    have HSM := Lib.hid (same_c fa a fn fc len cap b b w6 hfr (HR.out.below HB6.out) (by rw [← hfl, (HR.out).1]; omega))
    rw [decide_eq_true rfl] at HSM
    clear hfr hfl hb6 HSA HWL
    go_wp2_with fail
    refine HSM.out.mono ?_
    rintro e7 w7 ⟨rfl, q, rfl⟩
    go_wp2_with fail
    go_ret
    exact ⟨rfl, HB6.out.trans (below_drewN' _ _ _)⟩
  · have t1 : decide ((2305843009213693951 : Int) - (n : Int) < (len1 : Int)) = false := decide_eq_false (by omega)
    have t1' : ¬ (2305843009213693951 : Int) - (n : Int) < (len1 : Int) := by omega
    obtain ⟨hs2, hhs2⟩ : ∃ x, x = Sha.run hs (tail ++ z) := ⟨_, rfl⟩
    obtain ⟨tail2, htl2⟩ : ∃ x, x = Sha.rest (tail ++ z) := ⟨_, rfl⟩
    obtain ⟨n2, hn2⟩ : ∃ x, x = n + len1 := ⟨_, rfl⟩
    have hn2m : n2 ≤ 2305843009213693951 := by omega
    have HW2 := Lib.hid (show Sha.W8 hs2 from by rw [hhs2]; exact HW8.out.run _)
    have HTB2 := Lib.hid (show ∀ x ∈ tail2, x < 256 from by
      rw [htl2]; intro x hx
      rcases List.mem_append.1 (List.mem_of_mem_drop hx) with h | h
      · exact HTB.out x h
      · exact HR2.out.2.1 x h)
    have HTL2 := Lib.hid (show tail2.length < 64 from by rw [htl2, Sha.rest_len]; exact Nat.mod_lt _ (by omega))
    have HWR := Lib.hid (write_c wb g hs tail n HS.out.1 a1 len1 cap1 z (HR2.out.below HS.out.2.2.2.2) hlc1 hcm1 (by omega) (HR2.out.blk g (by omega)) (HT.out.below HS.out.2.2.2.2 hpos) (by omega))
    rw [← hhs2, ← htl2, ← hn2] at HWR
    refine HWR.out.mono ?_
    rintro e5 w5 ⟨rfl, hst5, ho5⟩
    have HST5 := Lib.hid hst5
    have hg5 : g < w5.heap.size := by
      obtain ⟨_, h, _⟩ := hst5
      exact h.lt
    have HRS5 := Lib.hid (HS.out.2.2.1.only ho5 (by omega))
    have HRD5 := Lib.hid (ho5.rd HS.out.2.2.2.1 HVB.out)
    have HB5 := Lib.hid (HS.out.2.2.2.2.trans (ho5.below hgw HS.out.2.2.2.2.size))
    have hc85 : w5.cell? ⟨g7, 8, none⟩ = some (.int .u64 (n : Int)) := HRS5.out.num
    have HWRT := Lib.hid (rwrite_c hs tail z n va a1 vl vc len1 cap1 w5 HW8.out HRD5.out hvl64 (HR2.out.below HB5.out) (by omega) (by omega))
    rw [← hhs2, ← htl2, ← hn2] at HWRT
    have HI2 := Lib.hid (rs_info (H := hs) (n := n) (v := .slice va vl vc) HW8.out.1)
    clear hst5 ho5 HS hc8 HWR hL hhs2 htl2 hn2
    go_wp2_with (first | (refine wpList_load_row (by rfl) 88 (.tmp 7) (by rfl) g7 (by rfl) _ (rsCells hs n (.slice va vl vc)).toArray (0, 0) _ HRS5.out.row Tryd.underlying88 (by rfl) HI2.out ?_))
    refine HWRT.out.mono ?_
    rintro e6 w6 ⟨v2, rfl, hov2, hb6⟩
    obtain ⟨va2, vl2, vc2, rfl, hvl2, hvc2, hvm2, hvn2, hvr2, _⟩ := hov2.form HTB2.out
    have hvl64' : vl2 < 64 := by rw [← hvl2]; exact HTL2.out
    have HVN2 := Lib.hid hvn2
    have HI3 := Lib.hid (rs_info (H := hs2) (n := n2) (v := .slice va2 vl2 vc2) HW2.out.1)
    have HZ3 := Lib.hid (rs_size (H := hs) (H' := hs2) (n := n) (n' := n2) (v := .slice va vl vc) (v' := .slice va2 vl2 vc2) HW8.out.1 HW2.out.1)
    have HRS6 := Lib.hid (HRS5.out.below hb6 HRS5.out.lt)
    have HFI := Lib.hid (show DL w g g7 hs2 tail2 n2 va2 vl2 vc2 (w6.setRow g7 (rsCells hs2 n2 (.slice va2 vl2 vc2)).toArray) from by
      have ho : Only g7 w6 (w6.setRow g7 (rsCells hs2 n2 (.slice va2 vl2 vc2)).toArray) := (Only.refl _ _).setRow _
      have hst6 := HST5.out.below hb6 hg5
      have hg7l := HRS5.out.lt
      have hsz6 := hb6.size
      refine ⟨?_, ?_, HRS6.out.setAll HW2.out.1, ?_, ?_⟩
      · obtain ⟨bs, h1, h2⟩ := hst6
        exact ⟨bs, h1.only ho (by omega), h2⟩
      · have := (ho.below (Nat.zero_le _) (Nat.zero_le _)).size; omega
      · refine ho.rd hvr2 ?_
        intro b' off hb'
        rcases hov2.2 with ⟨h0, _⟩ | ⟨gb, cp, cur, hv, hgb, _⟩
        · simp only [Value.slice.injEq] at h0; rw [h0.1] at hb'; cases hb'
        · simp only [Value.slice.injEq] at hv; rw [hv.1] at hb'; cases hb'; omega
      · exact (HB5.out.trans (hb6.mono HB5.out.size)).trans (ho.below (by omega) (by have := HB5.out.size; omega)))
    clear hov2 hvl2 hvc2 hvm2 hvn2 hvr2 HRS5 HRD5 HST5 HWRT hb6 hc85
    go_upto_region 11 with (first | (refine wpList_store_row (by rfl) 88 _ _ (by rfl) g7 (rsCells hs2 n2 (.slice va2 vl2 vc2)).toArray (by rfl) (by rfl) 88 (rsCells hs n (.slice va vl vc)).toArray HRS6.out.row HI3.out HZ3.out (rsCells_one _ _ _ _ _) ?_))
    refine gen_code (F := DL w g g7 hs2 tail2 n2 va2 vl2 vc2) HFI.out ?_
    intro w8 h8
    have HS := Lib.hid h8.drew
    clear h8 HFI HRS6
    (try dsimp only [Act.put, List.setIfInBounds_toArray, List.set_cons_zero, List.set_cons_succ])
    obtain ⟨S, hS⟩ : ∃ S, S = Sha.close hs2 tail2 n2 := ⟨_, rfl⟩
    obtain ⟨X, hX⟩ : ∃ X, X = saved hs2 tail2 n2 := ⟨_, rfl⟩
    have HSD := Lib.hid (show D32 S from by rw [hS]; unfold Sha.close; exact ⟨by rw [bytesOf_len, (HW2.out.run _).1], bytesOf_byte _⟩)
    have HXB := Lib.hid (show ∀ x ∈ X, x < 256 from by rw [hX]; exact saved_byte _ _ _ HTB2.out)
    have HXL := Lib.hid (show X.length ≤ 9223372036854775807 from by have := HTL2.out; rw [hX]; simp only [saved, List.length_append, bytesOf_len, Numm.put_len, HW2.out.1]; omega)
    have HSZ := Lib.hid (show ∀ W, DL w g g7 hs2 tail2 n2 va2 vl2 vc2 W → Calls Tryd.prog 46 #[.pointer (some ⟨g, 0, none⟩)] W (fun e w' => e = .returned (.int .i64 (n2 : Int)) ∧ W = w') from fun W hW => by
      obtain ⟨bs, h1, _⟩ := hW.1
      exact size_c W g hs2 bs n2 h1)
    have HSU := Lib.hid (show ∀ W, DL w g g7 hs2 tail2 n2 va2 vl2 vc2 W → Calls Tryd.prog 47 #[.pointer (some ⟨g, 0, none⟩)] W (DigRet S W) from fun W hW => by rw [hS]; exact ssum_c W g _ _ _ hW.1 (HT.out.below hW.2.2.2.2 hpos))
    have HCL := Lib.hid (show ∀ W, DL w g g7 hs2 tail2 n2 va2 vl2 vc2 W → Calls Tryd.prog 52 #[.agg (rsCells hs2 n2 (.slice va2 vl2 vc2)).toArray] W (DigRet S W) from fun W hW => by rw [hS]; exact rclose_c hs2 tail2 n2 va2 vl2 vc2 W HW2.out hW.2.2.2.1 hvl64' hn2m)
    have HSA := Lib.hid (show ∀ W, DL w g g7 hs2 tail2 n2 va2 vl2 vc2 W → Calls Tryd.prog 45 #[.pointer (some ⟨g, 0, none⟩)] W (RetR W.heap.size W X) from fun W hW => by
      have h := save_c W g _ _ _ hW.1
      rw [← hX] at h
      exact h.mono (RetB.form HXB.out))
    have HRS := Lib.hid (show ∀ W, DL w g g7 hs2 tail2 n2 va2 vl2 vc2 W → Calls Tryd.prog 51 #[.agg (rsCells hs2 n2 (.slice va2 vl2 vc2)).toArray] W (RetR W.heap.size W X) from fun W hW => by
      have h := rsave_c hs2 tail2 n2 va2 vl2 vc2 W HW2.out hW.2.2.2.1 hvl64' HVN2.out hn2m
      rw [← hX] at h
      exact h.mono (RetB.form HXB.out))
    have HSM := Lib.hid (show ∀ W fa ga fn gn fc gc, Rd W fa fn X → Rd W ga gn X → fn ≤ 9223372036854775807 → Calls Tryd.prog 50 #[.slice fa fn fc, .slice ga gn gc] W (RetD (.bool true) W) from fun W fa ga fn gn fc gc h1 h2 h3 => by
      have h := same_c fa ga fn fc gn gc X X W h1 h2 h3
      rwa [decide_eq_true rfl] at h)
    have HLN := Lib.hid (show ∀ W, DL w g g7 hs2 tail2 n2 va2 vl2 vc2 W → (Instr.loadAt 86 (.pointer (some ⟨g7, 8, none⟩))).run Tryd.prog W = .ok (.int .u64 (n2 : Int)) W from fun W hW => by
      have hc := hW.2.2.1.num
      go_simp)
    have HLR := Lib.hid (fun W (hW : DL w g g7 hs2 tail2 n2 va2 vl2 vc2 W) => load_rs W g7 hs2 n2 _ hW.2.2.1)
    have HES := Lib.hid (fun W => show (Op.equalIn 10000 25 (.agg (cellsOf S).toArray) (.agg (cellsOf S).toArray)).run Tryd.prog W = .ok true W from by
      simpa using eq_dig 25 32 Tryd.underlying25 W S S HSD.out.1 HSD.out.1 HSD.out.2 HSD.out.2)
    have HGT := Lib.hid (show Tryd.prog.eqGuardType Tryd.prog.depth 25 = false by kernel_rfl)
    have hwn : IntKind.i64.wrap (n2 : Int) = (n2 : Int) := by rw [IntKind.wrap_i64]; omega
    clear hS hX
    refine anyH_begin (S := DL w g g7 hs2 tail2 n2 va2 vl2 vc2) (by kernel_rfl) ?_
    refine anyH_pureG 0 (d := 57) (op := .move (.tmp 9)) (gd := none) (.int .i64 0) (by rfl) (fun o ho => wanted_plain ho _) (by kernel_rfl) (by kernel_rfl) (by kernel_rfl) (fun _ _ _ h => h) (fun o ho W hW => by unfold execOp; simp only [ho]; go_simp) HS.out ?_
    simp only [Act.put, List.setIfInBounds_toArray, List.set_cons_zero, List.set_cons_succ]
    refine anyH_pureG 1 (d := 58) (op := .binOp .eql 33 (.tmp 57) (.const (.int .i64 0)) 33) (gd := none) (.bool true) (by rfl) (fun o ho => wanted_plain ho _) (by kernel_rfl) (by kernel_rfl) (by kernel_rfl) (fun _ _ _ h => h) (fun o ho W hW => by unfold execOp; simp only [ho]; go_simp) HS.out ?_
    simp only [Act.put, List.setIfInBounds_toArray, List.set_cons_zero, List.set_cons_succ]
    refine anyH_pureG 2 (d := 59) (op := .move (.tmp 58)) (gd := none) (.bool true) (by rfl) (fun o ho => wanted_plain ho _) (by kernel_rfl) (by kernel_rfl) (by kernel_rfl) (fun _ _ _ h => h) (fun o ho W hW => by unfold execOp; simp only [ho]; go_simp) HS.out ?_
    simp only [Act.put, List.setIfInBounds_toArray, List.set_cons_zero, List.set_cons_succ]
    refine anyH_pureG 3 (d := 60) (op := .move (.tmp 5)) (gd := some (2, true)) (.pointer (some ⟨g, 0, none⟩)) (by rfl) (fun o ho => by simp only [Region.wanted, ho]; rfl) (by kernel_rfl) (by kernel_rfl) (by kernel_rfl) (fun _ _ _ h => h) (fun o ho W hW => by unfold execOp; simp only [ho]; go_simp) HS.out ?_
    simp only [Act.put, List.setIfInBounds_toArray, List.set_cons_zero, List.set_cons_succ]
    refine anyH_pureG 5 (d := 62) (op := .fieldAddr 88 (.tmp 7) 1) (gd := some (2, true)) (.pointer (some ⟨g7, 8, none⟩)) (by rfl) (fun o ho => by simp only [Region.wanted, ho]; rfl) (by kernel_rfl) (by kernel_rfl) (by kernel_rfl) (fun _ _ _ h => h) (fun o ho W hW => by unfold execOp; simp only [ho]; go_simp) HS.out ?_
    simp only [Act.put, List.setIfInBounds_toArray, List.set_cons_zero, List.set_cons_succ]
    refine anyH_loadG 6 (d := 63) (ty := 86) (x := (.tmp 62)) (gd := some (2, true)) (p := .pointer (some ⟨g7, 8, none⟩)) (.int .u64 (n2 : Int)) (by rfl) (fun o ho => by simp only [Region.wanted, ho]; rfl) (by kernel_rfl) (by kernel_rfl) (by kernel_rfl) (fun _ _ _ h => h) (by rfl) HLN.out HS.out ?_
    simp only [Act.put, List.setIfInBounds_toArray, List.set_cons_zero, List.set_cons_succ]
    refine anyH_pureG 7 (d := 64) (op := .convert 86 3 (.tmp 63)) (gd := some (2, true)) (.int .i64 (n2 : Int)) (by rfl) (fun o ho => by simp only [Region.wanted, ho]; rfl) (by kernel_rfl) (by kernel_rfl) (by kernel_rfl) (fun _ _ _ h => h) (fun o ho W hW => by unfold execOp; simp only [ho]; go_simp) HS.out ?_
    simp only [Act.put, List.setIfInBounds_toArray, List.set_cons_zero, List.set_cons_succ]
    refine anyH_callG 4 (d := some 61) (f := 46) (xs := #[(.tmp 60)]) (ts := #[75]) (gd := some (2, true)) (vs := #[.pointer (some ⟨g, 0, none⟩)]) (by kernel_rfl) (by rfl) (fun o ho => by simp only [Region.wanted, ho]; rfl) (by go_simp) (by go_simp) (HSZ.out _ HS.out) ?_
    rintro e91 w91 ⟨rfl, rfl⟩
    refine ⟨_, rfl, HS.out, fun hS91 => ?_⟩
    have HS := Lib.hid hS91
    clear hS91 
    simp only [Act.put, List.setIfInBounds_toArray, List.set_cons_zero, List.set_cons_succ]
    refine anyH_pureG 8 (d := 65) (op := .binOp .eql 3 (.tmp 61) (.tmp 64) 3) (gd := some (2, true)) (.bool true) (by rfl) (fun o ho => by simp only [Region.wanted, ho]; rfl) (by kernel_rfl) (by kernel_rfl) (by kernel_rfl) (fun _ _ _ h => h) (fun o ho W hW => by unfold execOp; simp only [ho]; go_simp) HS.out ?_
    simp only [Act.put, List.setIfInBounds_toArray, List.set_cons_zero, List.set_cons_succ]
    refine anyH_pureG 9 (d := 66) (op := .pick (.tmp 59) (.tmp 65) (.const (.bool false))) (gd := none) (.bool true) (by rfl) (fun o ho => wanted_plain ho _) (by kernel_rfl) (by kernel_rfl) (by kernel_rfl) (fun _ _ _ h => h) (fun o ho W hW => by unfold execOp; simp only [ho]; go_simp) HS.out ?_
    simp only [Act.put, List.setIfInBounds_toArray, List.set_cons_zero, List.set_cons_succ]
    refine anyH_pureG 10 (d := 67) (op := .move (.tmp 66)) (gd := none) (.bool true) (by rfl) (fun o ho => wanted_plain ho _) (by kernel_rfl) (by kernel_rfl) (by kernel_rfl) (fun _ _ _ h => h) (fun o ho W hW => by unfold execOp; simp only [ho]; go_simp) HS.out ?_
    simp only [Act.put, List.setIfInBounds_toArray, List.set_cons_zero, List.set_cons_succ]
    refine anyH_pureG 11 (d := 68) (op := .move (.tmp 5)) (gd := some (10, true)) (.pointer (some ⟨g, 0, none⟩)) (by rfl) (fun o ho => by simp only [Region.wanted, ho]; rfl) (by kernel_rfl) (by kernel_rfl) (by kernel_rfl) (fun _ _ _ h => h) (fun o ho W hW => by unfold execOp; simp only [ho]; go_simp) HS.out ?_
    simp only [Act.put, List.setIfInBounds_toArray, List.set_cons_zero, List.set_cons_succ]
    refine anyH_loadG 13 (d := 70) (ty := 88) (x := (.tmp 7)) (gd := some (10, true)) (p := .pointer (some ⟨g7, 0, none⟩)) (.agg (rsCells hs2 n2 (.slice va2 vl2 vc2)).toArray) (by rfl) (fun o ho => by simp only [Region.wanted, ho]; rfl) (by kernel_rfl) (by kernel_rfl) (by kernel_rfl) (fun _ _ _ h => h) (by rfl) HLR.out HS.out ?_
    simp only [Act.put, List.setIfInBounds_toArray, List.set_cons_zero, List.set_cons_succ]
    refine anyH_callG 12 (d := some 69) (f := 47) (xs := #[(.tmp 68)]) (ts := #[75]) (gd := some (10, true)) (vs := #[.pointer (some ⟨g, 0, none⟩)]) (by kernel_rfl) (by rfl) (fun o ho => by simp only [Region.wanted, ho]; rfl) (by go_simp) (by go_simp) (HSU.out _ HS.out) ?_
    rintro e92 w92 ⟨rfl, hb92⟩
    refine ⟨_, rfl, HS.out.below hb92, fun hS92 => ?_⟩
    have HS := Lib.hid hS92
    clear hS92 hb92
    simp only [Act.put, List.setIfInBounds_toArray, List.set_cons_zero, List.set_cons_succ]
    refine anyH_callG 14 (d := some 71) (f := 52) (xs := #[(.tmp 70)]) (ts := #[88]) (gd := some (10, true)) (vs := #[.agg (rsCells hs2 n2 (.slice va2 vl2 vc2)).toArray]) (by kernel_rfl) (by rfl) (fun o ho => by simp only [Region.wanted, ho]; rfl) (by go_simp) (by go_simp) (HCL.out _ HS.out) ?_
    rintro e93 w93 ⟨rfl, hb93⟩
    refine ⟨_, rfl, HS.out.below hb93, fun hS93 => ?_⟩
    have HS := Lib.hid hS93
    clear hS93 hb93
    simp only [Act.put, List.setIfInBounds_toArray, List.set_cons_zero, List.set_cons_succ]
    refine anyH_eqG 15 (d := 72) (t := 25) (t' := 25) (x := (.tmp 69)) (y := (.tmp 71)) (gd := some (10, true)) ((cellsOf S).toArray) ((cellsOf S).toArray) true (by rfl) (fun o ho => by simp only [Region.wanted, ho]; rfl) (by kernel_rfl) (by kernel_rfl) (by kernel_rfl) (fun _ _ _ h => h) (by rfl) (by rfl) HGT.out (fun W => HES.out W) HS.out ?_
    simp only [Act.put, List.setIfInBounds_toArray, List.set_cons_zero, List.set_cons_succ]
    refine anyH_pureG 16 (d := 73) (op := .pick (.tmp 67) (.tmp 72) (.const (.bool false))) (gd := none) (.bool true) (by rfl) (fun o ho => wanted_plain ho _) (by kernel_rfl) (by kernel_rfl) (by kernel_rfl) (fun _ _ _ h => h) (fun o ho W hW => by unfold execOp; simp only [ho]; go_simp) HS.out ?_
    simp only [Act.put, List.setIfInBounds_toArray, List.set_cons_zero, List.set_cons_succ]
    refine anyH_pureG 17 (d := 74) (op := .move (.tmp 73)) (gd := none) (.bool true) (by rfl) (fun o ho => wanted_plain ho _) (by kernel_rfl) (by kernel_rfl) (by kernel_rfl) (fun _ _ _ h => h) (fun o ho W hW => by unfold execOp; simp only [ho]; go_simp) HS.out ?_
    simp only [Act.put, List.setIfInBounds_toArray, List.set_cons_zero, List.set_cons_succ]
    refine anyH_pureG 18 (d := 75) (op := .move (.tmp 5)) (gd := some (17, true)) (.pointer (some ⟨g, 0, none⟩)) (by rfl) (fun o ho => by simp only [Region.wanted, ho]; rfl) (by kernel_rfl) (by kernel_rfl) (by kernel_rfl) (fun _ _ _ h => h) (fun o ho W hW => by unfold execOp; simp only [ho]; go_simp) HS.out ?_
    simp only [Act.put, List.setIfInBounds_toArray, List.set_cons_zero, List.set_cons_succ]
    refine anyH_loadG 20 (d := 77) (ty := 88) (x := (.tmp 7)) (gd := some (17, true)) (p := .pointer (some ⟨g7, 0, none⟩)) (.agg (rsCells hs2 n2 (.slice va2 vl2 vc2)).toArray) (by rfl) (fun o ho => by simp only [Region.wanted, ho]; rfl) (by kernel_rfl) (by kernel_rfl) (by kernel_rfl) (fun _ _ _ h => h) (by rfl) HLR.out HS.out ?_
    simp only [Act.put, List.setIfInBounds_toArray, List.set_cons_zero, List.set_cons_succ]
    refine anyH_callG 19 (d := some 76) (f := 45) (xs := #[(.tmp 75)]) (ts := #[75]) (gd := some (17, true)) (vs := #[.pointer (some ⟨g, 0, none⟩)]) (by kernel_rfl) (by rfl) (fun o ho => by simp only [Region.wanted, ho]; rfl) (by go_simp) (by go_simp) (HSA.out _ HS.out) ?_
    rintro e94 w94 ⟨fa, fn, fc, rfl, hfl, _, _, _, hfr, _, hb94⟩
    refine ⟨_, rfl, HS.out.below hb94, fun hS94 => ?_⟩
    have HS := Lib.hid hS94
    have HF := Lib.hid hfr
    have HFL := Lib.hid hfl
    clear hS94 hfr hfl hb94
    simp only [Act.put, List.setIfInBounds_toArray, List.set_cons_zero, List.set_cons_succ]
    refine anyH_callG 21 (d := some 78) (f := 51) (xs := #[(.tmp 77)]) (ts := #[88]) (gd := some (17, true)) (vs := #[.agg (rsCells hs2 n2 (.slice va2 vl2 vc2)).toArray]) (by kernel_rfl) (by rfl) (fun o ho => by simp only [Region.wanted, ho]; rfl) (by go_simp) (by go_simp) (HRS.out _ HS.out) ?_
    rintro e95 w95 ⟨ga, gn, gc, rfl, hgl, _, _, _, hgr, _, hb95⟩
    refine ⟨_, rfl, HS.out.below hb95, fun hS95 => ?_⟩
    have HS := Lib.hid hS95
    have HG := Lib.hid hgr
    have HGL := Lib.hid hgl
    have HF := Lib.hid (HF.out.below hb95)
    clear hS95 hgr hgl hb95
    simp only [Act.put, List.setIfInBounds_toArray, List.set_cons_zero, List.set_cons_succ]
    refine anyH_callG 22 (d := some 79) (f := 50) (xs := #[(.tmp 76), (.tmp 78)]) (ts := #[63, 63]) (gd := some (17, true)) (vs := #[.slice fa fn fc, .slice ga gn gc]) (by kernel_rfl) (by rfl) (fun o ho => by simp only [Region.wanted, ho]; rfl) (by go_simp) (by go_simp) (HSM.out _ fa ga fn gn fc gc HF.out HG.out (by rw [← HFL.out]; exact HXL.out)) ?_
    rintro e96 w96 ⟨rfl, q96, rfl⟩
    refine ⟨_, rfl, HS.out.drewN q96, fun hS96 => ?_⟩
    have HS := Lib.hid hS96
    clear hS96 
    simp only [Act.put, List.setIfInBounds_toArray, List.set_cons_zero, List.set_cons_succ]
    refine anyH_pureG 23 (d := 80) (op := .pick (.tmp 74) (.tmp 79) (.const (.bool false))) (gd := none) (.bool true) (by rfl) (fun o ho => wanted_plain ho _) (by kernel_rfl) (by kernel_rfl) (by kernel_rfl) (fun _ _ _ h => h) (fun o ho W hW => by unfold execOp; simp only [ho]; go_simp) HS.out ?_
    simp only [Act.put, List.setIfInBounds_toArray, List.set_cons_zero, List.set_cons_succ]
    refine anyH_pureG 24 (d := 4) (op := .assign (.tmp 80)) (gd := none) (.bool true) (by rfl) (fun o ho => wanted_plain ho _) (by kernel_rfl) (by kernel_rfl) (by kernel_rfl) (fun _ _ _ h => h) (fun o ho W hW => by unfold execOp; simp only [ho]; go_simp) HS.out ?_
    simp only [Act.put, List.setIfInBounds_toArray, List.set_cons_zero, List.set_cons_succ]
    refine wpAnyH_done (by kernel_rfl) ?_ _
    go_wp2
    go_ret
    exact ⟨rfl, HS.out.2.2.2.2⟩
theorem cloads_c (a : Option Addr) (len cap : Nat) (b : List Nat) (a1 : Option Addr) (len1 cap1 : Nat) (z : List Nat) (w : World) (r1 : BytesIn w a len cap b) (r2 : BytesIn w a1 len1 cap1 z) (ht : Tab w) :
    Calls Tryd.prog 13 #[.slice a len cap, .slice a1 len1 cap1] w fun e w' => e = .returned (.bool true) ∧ Below w.heap.size w w' := by
  obtain ⟨h1, _, h2, h3⟩ := r1
  obtain ⟨g1, _, g2, g3⟩ := r2
  by_cases hs : len < 40
  · exact loads_short a len cap b a1 len1 cap1 w h1 hs ht
  · by_cases hf : 2305843009213693951 < numAt b ∨ len - 40 ≠ numAt b % 64
    · exact loads_form a len cap b a1 len1 cap1 w h1 (by omega) h2 (by omega) (by omega) hf ht
    · exact loads_ok a len cap b a1 len1 cap1 z w h1 (by omega) h2 (by omega) (by omega) (by omega) (Classical.not_not.1 fun h => hf (.inr h)) g1 g2 (by omega) (by omega) ht
end Go.Proofs.YtealeefkeikcbabDoor
