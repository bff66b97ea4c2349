/-
  The walk over the first frame of bytes (journal.first), and bytes.Equal.
-/
import Derived.Test.YtjpcbmfnjifgfaaJfm
import Derived.Test.YtjpcbmfnjifgfaaShf
namespace Go.Proofs.Ytjpcbmfnjifgfaa
open Go.RowKit
set_option linter.unusedVariables false
theorem rd_bytesIn {w : World} {a : Option Addr} {n : Nat} {xs : List Nat} (h : Rd w a n xs) : Lib.BytesIn w a n (xs.map fun z : Nat => (z : Int)) := by
  intro h0
  obtain ⟨b, off, rfl, _, hc⟩ := h.2.2.resolve_left (by omega)
  refine ⟨b, off, rfl, fun i hi => ?_⟩
  rw [hc i hi]
  have hl := h.1
  rw [List.getD_eq_getElem?_getD, List.getD_eq_getElem?_getD, List.getElem?_map, List.getElem?_eq_getElem (by omega)]
  rfl
theorem bytesOf_inj : ∀ (xs ys : List Nat), (∀ z ∈ xs, z < 256) → (∀ z ∈ ys, z < 256) → Lib.bytesOf (xs.map fun z : Nat => (z : Int)) = Lib.bytesOf (ys.map fun z : Nat => (z : Int)) → xs = ys
  | [], [], _, _, _ => rfl
  | [], y :: ys, _, _, h => by simp [Lib.bytesOf] at h
  | x :: xs, [], _, _, h => by simp [Lib.bytesOf] at h
  | x :: xs, y :: ys, h1, h2, h => by
    simp only [Lib.bytesOf, List.map_cons, List.cons.injEq] at h
    obtain ⟨h3, h4⟩ := h
    have hx := h1 x (by simp)
    have hy := h2 y (by simp)
    have e : x = y := by
      have := congrArg UInt8.toNat h3
      simp only [Int.toNat_natCast, UInt8.toNat_ofNat'] at this
      omega
    rw [e, bytesOf_inj xs ys (fun z hz => h1 z (by simp [hz])) (fun z hz => h2 z (by simp [hz])) h4]
theorem equal_c (p1 p2 : Option Addr) (n c m d : Nat) (xs ys : List Nat) (w : World) (h1 : Rd w p1 n xs) (h2 : Rd w p2 m ys) :
    Calls Try.prog 85 #[.slice p1 n c, .slice p2 m d] w fun e w' => e = .returned (.bool (decide (xs = ys))) ∧ w' = w := by
  refine (bytes_Equal_all p1 p2 n c m d (xs.map fun z : Nat => (z : Int)) (ys.map fun z : Nat => (z : Int)) w (by rw [List.length_map]; exact h1.1) (by rw [List.length_map]; exact h2.1) (rd_bytesIn h1) (rd_bytesIn h2)).mono ?_
  rintro e w' ⟨rfl, rfl⟩
  refine ⟨?_, rfl⟩
  congr 2
  by_cases hxy : xs = ys
  · subst hxy; simp
  · rw [decide_eq_false hxy, beq_eq_false_iff_ne]
    exact fun h => hxy (bytesOf_inj xs ys h1.2.1 h2.2.1 h)
def FirstR (B : Nat) (w : World) (b : List Nat) (e : Ending) (w' : World) : Prop :=
  match Frm.firstL b with
  | none => e = .returned (.tuple #[.slice none 0 0, .bool false]) ∧ Below B w w'
  | some p => ∃ g c, e = .returned (.tuple #[.slice (some ⟨g, 0, none⟩) (8 + p.length) c, .bool true]) ∧ 8 + p.length ≤ c ∧ c ≤ 9223372036854775807 ∧ Own w' B (.slice (some ⟨g, 0, none⟩) (8 + p.length) c) (Frm.frameL p) ∧ Below B w w'
theorem firstR_none {B : Nat} {w w' : World} {b : List Nat} (h : Frm.firstL b = none) (hb : Below B w w') : FirstR B w b (.returned (.tuple #[.slice none 0 0, .bool false])) w' := by
  unfold FirstR
  rw [h]
  exact ⟨rfl, hb⟩
set_option maxRecDepth 100000 in
set_option maxHeartbeats 4000000 in
theorem first_c (a : Option Addr) (len cap : Nat) (b : List Nat) (w : World) (h : Rd w a len b) (hlc : len ≤ cap) (hm : len ≤ 140737488355328) :
    Calls Try.prog 67 #[.slice a len cap] w (FirstR w.heap.size w b) := by
  have hl := h.1
  by_cases h4 : len < 4
  · have HN := Lib.hid (show Frm.firstL b = none from Frm.first_short (by omega))
    have HW := Lib.hid (word_out a len cap 0 w (by omega) (by omega))
    clear h
    go_enter Try.func67, Try.ntmps67
    go_wp2_with fail
    refine HW.out.mono ?_
    rintro e w1 ⟨rfl, q, rfl⟩
    go_wp2_with fail
    go_ret2
    exact firstR_none HN.out (below_drewN' _ _ _)
  · obtain ⟨n, hn⟩ : ∃ n, n = Frm.wordL b := ⟨_, rfl⟩
    have HW0 : Calls Try.prog 84 #[.slice a len cap, .int .i64 0] w (RetD (.tuple #[.int .u32 (n : Int), .bool true]) w) := by
      have := word_c a len cap 0 b w h (by omega) (by omega)
      rw [hn]
      exact this
    have HW := Lib.hid HW0
    have HN32 := Lib.hid (show n < 4294967296 from by
      rw [hn]
      unfold Frm.wordL
      have hb := h.2.1
      have g : ∀ i, b.getD i 0 < 256 := fun i => by
        rw [List.getD_eq_getElem?_getD]
        by_cases hi : i < b.length
        · rw [List.getElem?_eq_getElem hi]; exact hb _ (List.getElem_mem hi)
        · rw [List.getElem?_eq_none (by omega)]; simp
      have g0 := g 0
      have g1 := g 1
      have g2 := g 2
      have g3 := g 3
      simp only [Numm.num, List.foldl_cons, List.foldl_nil]
      omega)
    clear HW0
    by_cases hbig : 1048576 < n
    · have HN := Lib.hid (show Frm.firstL b = none from Frm.first_none fun hk => by have := hk.2.1; omega)
      clear h hn
      have i1 : (n : Int) > 1048576 := by omega
      go_enter Try.func67, Try.ntmps67
      go_wp2_with fail
      refine HW.out.mono ?_
      rintro e w1 ⟨rfl, q, rfl⟩
      go_wp2_with fail
      go_ret2
      exact firstR_none HN.out (below_drewN' _ _ _)
    · have i1 : ¬ (n : Int) > 1048576 := by omega
      have i2 : wrap64 ((len : Int) - 8) = (len : Int) - 8 := by unfold wrap64; omega
      by_cases hsh : len < n + 8
      · have HN := Lib.hid (show Frm.firstL b = none from Frm.first_none fun hk => by have := hk.2.2.1; omega)
        clear h hn
        have i3 : (len : Int) - 8 < (n : Int) := by omega
        go_enter Try.func67, Try.ntmps67
        go_wp2_with fail
        refine HW.out.mono ?_
        rintro e w1 ⟨rfl, q, rfl⟩
        go_wp2_with fail
        go_ret2
        exact firstR_none HN.out (below_drewN' _ _ _)
      · have i3 : ¬ (len : Int) - 8 < (n : Int) := by omega
        have hsome : ∃ g o, a = some ⟨g, o, none⟩ := by
          obtain ⟨g, o, e, _⟩ := h.2.2.resolve_left (by omega)
          exact ⟨g, o, e⟩
        obtain ⟨g, o, rfl⟩ := hsome
        obtain ⟨p, hp⟩ : ∃ p, p = (b.drop 8).take n := ⟨_, rfl⟩
        have HRP := Lib.hid (show Rd w (sla (some ⟨g, o, none⟩) cap 8) n p from by
          have := (h.cut cap 8 (by omega) hlc).take n (by omega)
          rw [hp]; exact this)
        have HRB := Lib.hid (show Rd w (some ⟨g, o, none⟩) (8 + n) (b.take (8 + n)) from h.take (8 + n) (by omega))
        have hpl : p.length = n := HRP.out.1
        have HFL := Lib.hid (show Frm.firstL b = if Frm.frameL p = b.take (8 + n) then some p else none from by
          unfold Frm.firstL
          by_cases hf : Frm.frameL p = b.take (8 + n)
          · rw [if_pos hf, if_pos ⟨by omega, by omega, by omega, by rw [← hn, ← hp]; exact hf⟩, ← hn, ← hp]
          · rw [if_neg hf, if_neg fun hk => hf (by have := hk.2.2.2; rw [← hn, ← hp] at this; exact this)])
        have HFB := Lib.hid (Frm.frame_byte p HRP.out.2.1)
        have HFN := Lib.hid (show (Frm.frameL p).length = 8 + n from by rw [Frm.frame_len, hpl])
        have HPL := Lib.hid hpl
        have hwn : wrap64 (8 + (n : Int)) = ((8 + n : Nat) : Int) := by unfold wrap64; omega
        have kH := fun W => run_headAt W (some ⟨g, o, none⟩) len cap (8 + n) (by omega)
        by_cases hc8 : cap = 8
        · subst hc8
          have HFR : Hid (∀ q, Calls Try.prog 47 #[.slice (some ⟨g, o, none⟩) n 0] (w.drewN q) (RetB (w.drewN q).heap.size (w.drewN q) (Frm.frameL p))) := Lib.hid fun q => frame_c _ n 0 p _ (show Rd (w.drewN q) (some ⟨g, o, none⟩) n p from by have h := (HRP.out.drewN (n := q)); rw [show sla (some ⟨g, o, none⟩) 8 8 = some ⟨g, o, none⟩ from if_pos rfl] at h; exact h) (by simp) (by omega)
          clear h hn hp hpl hl
          go_enter Try.func67, Try.ntmps67
          go_wp2_with fail
          refine HW.out.mono ?_
          rintro e w1 ⟨rfl, q, rfl⟩
          go_wp2_with fail
          refine ((HFR.out q).mono (RetB.form HFB.out)).mono ?_
          rintro e w2 ⟨a2, L2, c2, rfl, hl2, hlc2, hcm2, hn2, hr2, ho2, hb2⟩
          have hL2 : L2 = 8 + n := by rw [← hl2, HFN.out]
          subst hL2
          have hsome2 : ∃ g2, a2 = some ⟨g2, 0, none⟩ := by
            rcases ho2.2 with ⟨h0, _⟩ | ⟨g', cp, cur, hv, _⟩
            · have := (Value.slice.inj h0).2.1; omega
            · exact ⟨g', (Value.slice.inj hv).1⟩
          obtain ⟨g2, rfl⟩ := hsome2
          have HO2 := Lib.hid ho2
          have HB2 := Lib.hid ((below_drewN' w.heap.size w q).trans hb2)
          have HEQ := Lib.hid (equal_c (some ⟨g2, 0, none⟩) (some ⟨g, o, none⟩) (8 + n) c2 (8 + n) 8 _ _ w2 hr2 (HRB.out.drewN.below hb2))
          clear hl2 hn2 hr2 ho2 hb2 HRP HRB HFR HW HFB HFN
          by_cases hf : Frm.frameL p = b.take (8 + n)
          · have HFS := Lib.hid (show Frm.firstL b = some p from by rw [HFL.out, if_pos hf])
            rw [decide_eq_true hf] at HEQ
            clear hf HFL
            go_wp2_with fail
            refine HEQ.out.mono ?_
            rintro e w3 ⟨rfl, rfl⟩
            go_wp2_with fail
            go_ret2
            unfold FirstR
            rw [HFS.out]
            simp only
            rw [HPL.out]
            exact ⟨g2, c2, rfl, hlc2, hcm2, HO2.out, HB2.out⟩
          · have HFS := Lib.hid (show Frm.firstL b = none from by rw [HFL.out, if_neg hf])
            rw [decide_eq_false hf] at HEQ
            clear hf HFL
            go_wp2_with fail
            refine HEQ.out.mono ?_
            rintro e w3 ⟨rfl, rfl⟩
            go_wp2_with fail
            go_ret2
            exact firstR_none HFS.out HB2.out
        · have hc9 : 8 < cap := by omega
          have HFR : Hid (∀ q, Calls Try.prog 47 #[.slice (some ⟨g, o + 8, none⟩) n (cap - 8)] (w.drewN q) (RetB (w.drewN q).heap.size (w.drewN q) (Frm.frameL p))) := Lib.hid fun q => frame_c _ n (cap - 8) p _ (show Rd (w.drewN q) (some ⟨g, o + 8, none⟩) n p from by have h := (HRP.out.drewN (n := q)); rw [show sla (some ⟨g, o, none⟩) cap 8 = some ⟨g, o + 8, none⟩ from by unfold sla; rw [if_neg hc8]; rfl] at h; exact h) (by simp) (by omega)
          clear h hn hp hpl hl
          go_enter Try.func67, Try.ntmps67
          go_wp2_with fail
          refine HW.out.mono ?_
          rintro e w1 ⟨rfl, q, rfl⟩
          go_wp2_with fail
          refine ((HFR.out q).mono (RetB.form HFB.out)).mono ?_
          rintro e w2 ⟨a2, L2, c2, rfl, hl2, hlc2, hcm2, hn2, hr2, ho2, hb2⟩
          have hL2 : L2 = 8 + n := by rw [← hl2, HFN.out]
          subst hL2
          have hsome2 : ∃ g2, a2 = some ⟨g2, 0, none⟩ := by
            rcases ho2.2 with ⟨h0, _⟩ | ⟨g', cp, cur, hv, _⟩
            · have := (Value.slice.inj h0).2.1; omega
            · exact ⟨g', (Value.slice.inj hv).1⟩
          obtain ⟨g2, rfl⟩ := hsome2
          have HO2 := Lib.hid ho2
          have HB2 := Lib.hid ((below_drewN' w.heap.size w q).trans hb2)
          have HEQ := Lib.hid (equal_c (some ⟨g2, 0, none⟩) (some ⟨g, o, none⟩) (8 + n) c2 (8 + n) cap _ _ w2 hr2 (HRB.out.drewN.below hb2))
          clear hl2 hn2 hr2 ho2 hb2 HRP HRB HFR HW HFB HFN
          by_cases hf : Frm.frameL p = b.take (8 + n)
          · have HFS := Lib.hid (show Frm.firstL b = some p from by rw [HFL.out, if_pos hf])
            rw [decide_eq_true hf] at HEQ
            clear hf HFL
            go_wp2_with fail
            refine HEQ.out.mono ?_
            rintro e w3 ⟨rfl, rfl⟩
            go_wp2_with fail
            go_ret2
            unfold FirstR
            rw [HFS.out]
            simp only
            rw [HPL.out]
            exact ⟨g2, c2, rfl, hlc2, hcm2, HO2.out, HB2.out⟩
          · have HFS := Lib.hid (show Frm.firstL b = none from by rw [HFL.out, if_neg hf])
            rw [decide_eq_false hf] at HEQ
            clear hf HFL
            go_wp2_with fail
            refine HEQ.out.mono ?_
            rintro e w3 ⟨rfl, rfl⟩
            go_wp2_with fail
            go_ret2
            exact firstR_none HFS.out HB2.out
end Go.Proofs.Ytjpcbmfnjifgfaa
