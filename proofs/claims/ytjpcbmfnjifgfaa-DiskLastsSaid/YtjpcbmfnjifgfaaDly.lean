/-
  Behind a crash a file's bytes are those of the last Sync, or of some change since then, or a beginning: the statement's walk.
-/
import Derived.Test.YtjpcbmfnjifgfaaDlx
import Derived.Test.YtjpcbmfnjifgfaaDcd
import Derived.Test.YtjpcbmfnjifgfaaBin
import Derived.Test.YtjpcbmfnjifgfaaJti
namespace Go.Proofs.Ytjpcbmfnjifgfaa
open Go.RowKit Go.Maps
set_option linter.unusedVariables false
theorem sizeOf_slb (W : World) : (Go.sizeOf 30).run Try.prog W = .ok 1 W := by kernel_rfl
theorem und_bss : Try.prog.underlying 52 = some (.slice (Try.prog.elem 52)) := by
  rw [show Try.prog.elem 52 = 30 by kernel_rfl]; exact Try.underlying52
theorem run_bheadAt (W : World) (a : Option Addr) (len cap k : Nat) (hk : k ≤ cap) :
    (Instr.sliceAt 52 (.slice a len cap) none (some (.int .i64 (k : Int))) none).run Try.prog W = .ok (.slice a k cap) W := by
  rw [run_sliceAt_slice W _ _ _ _ _ und_bss, run_slice_h W _ a len cap und_bss .i64 (k : Int) (by omega) (by omega), show Try.prog.elem 52 = 30 by kernel_rfl, sizeOf_slb]
  simp [Result.andThen, sliced, add_zero']
set_option maxRecDepth 100000 in
set_option maxHeartbeats 8000000 in
theorem dlasts_c (a0 : Option Addr) (len0 cap0 : Nat) (L : List Sl) (a1 : Option Addr) (len1 cap1 : Nat) (Bs : Nat → Bool) (keep part : Int) (w : World) (hL : BssIn w a0 len0 cap0 L) (hB : BoolsIn w a1 len1 cap1 Bs) :
    Calls Try.prog 5 #[.slice a0 len0 cap0, .slice a1 len1 cap1, .int .i64 keep, .int .i64 part] w fun e w' => e = .returned (.bool true) ∧ Below w.heap.size w w' := by
  have HL := Lib.hid hL
  have HBO := Lib.hid hB
  clear hL hB
  have HN := Lib.hid (dnew_c 1048576 w (by omega) (by omega))
  obtain ⟨d, hd⟩ : ∃ d, d = w.heap.size := ⟨_, rfl⟩
  go_enter Try.func5, Try.ntmps5
  go_wp2_with fail
  refine HN.out.mono ?_
  rintro e1 w1 ⟨rfl, hk1, hb1⟩
  rw [← hd]
  have HK1 := Lib.hid (show DK w.heap.size d (newS 1048576) w1 from by rw [hd]; exact hk1)
  have HB1 := Lib.hid hb1
  clear hk1 hb1 HN hd
  go_wp2_with fail
  refine (awake9_c _).mono ?_
  rintro e2 w2 ⟨rfl, hb2⟩
  have HC1 := Lib.hid (La.new (HK1.out.below hb2) (HB1.out.trans (hb2.mono HB1.out.size)))
  clear hb2 HK1 HB1
  go_wp2_with fail
  refine HC1.out.mono ?_
  rintro e3 w3 ⟨rfl, hx3⟩
  have HC2 := Lib.hid (La.new2 hx3)
  clear hx3 HC1
  go_wp2_with fail
  refine HC2.out.mono ?_
  rintro e4 w4 ⟨rfl, hf4⟩
  have HF4 := Lib.hid hf4
  clear hf4 HC2
  obtain ⟨m, hm, hm1, hm2⟩ : ∃ m : Nat, min (len0 : Int) 40 = (m : Int) ∧ m ≤ len0 ∧ m ≤ 40 := by
    by_cases h : len0 ≤ 40
    · exact ⟨len0, by omega, by omega, h⟩
    · exact ⟨40, by omega, by omega, by omega⟩
  have hsl := fun W => run_bheadAt W a0 len0 cap0 m (by have := HL.out.2.2.1; omega)
  go_wp2_with fail
  clear hsl hm
  go_loopw [43, 11, 12] (fun i v u wr => ∃ (k : Nat) (Z : List Nat) (sure : Nat) (ya : Option Addr) (yc : Nat), k ≤ m ∧ i = .int .i64 (k : Int) ∧ v = .slice ya Z.length yc ∧ u = .int .i64 (sure : Int) ∧ Z.length ≤ 1000 * k ∧ Hid (La w d (.slice ya Z.length yc) Z Z sure k wr)) (fun i _ _ _ => m - (intOf i).toNat)
  case atStart => exact ⟨0, [], 0, none, 0, by omega, rfl, rfl, rfl, by simp, HF4⟩
  case round =>
    clear HF4
    obtain ⟨k, Z, sure, ya, yc, hk, rfl, rfl, rfl, hz, HF⟩ := hrel
    by_cases hkm : k < m
    · have ikm : (k : Int) < (m : Int) := by omega
      obtain ⟨b, off, ha, hlt, hcell⟩ := (HL.out.2.2.2.2.1).resolve_left (by omega)
      subst ha
      have hkL : k < L.length := by have := HL.out.1; omega
      obtain ⟨⟨pa, n, c, ps⟩, hp⟩ : ∃ p : Sl, L[k]? = some p := ⟨_, List.getElem?_eq_getElem hkL⟩
      have ce : wr.cell? ⟨b, off + k, none⟩ = some (.slice pa n c) := (HF.out.below.cell (p := ⟨b, off + k, none⟩) hlt).trans (hcell k _ hp)
      obtain ⟨hr, hnil, hnc, hcb⟩ := HL.out.2.2.2.2.2 _ (List.mem_of_getElem? hp)
      simp only at hr hnil hnc hcb
      clear hcell hlt hp hkL
      by_cases hn : n ≤ 1000
      · have i1 : ¬ (1000 : Int) < (n : Int) := by omega
        have HRD := Lib.hid hr
        have HAP := Lib.hid (HF.out.append (c := c) (hr.below HF.out.below) hnil (fun b' o s e h0 => by
          rcases hr.2.2 with h1 | ⟨b2, o2, e2, h2, _⟩
          · exact absurd h1 h0
          · rw [e2] at e
            cases e
            exact h2) hn (by omega) (by omega))
        have HNL := Lib.hid hnil
        clear hr hnil HF
        go_wp2_with fail
        refine HAP.out.mono ?_
        rintro e6 w6 ⟨rfl, hf6⟩
        have HF6 := Lib.hid hf6
        clear hf6 HAP
        have HPL := Lib.hid HRD.out.1
        by_cases hk1 : k < len1
        · have i2 : (k : Int) < (len1 : Int) := by omega
          obtain ⟨b1, off1, ha1, hlt1, hcell1⟩ := (HBO.out.2.2.2).resolve_left (by omega)
          subst ha1
          have cb : ∀ W, La w d (.slice ya Z.length yc) Z (Z ++ ps) sure (k + 1) W → W.cell? ⟨b1, off1 + k, none⟩ = some (.bool (Bs k)) := fun W h => (h.below.cell (p := ⟨b1, off1 + k, none⟩) hlt1).trans (hcell1 k hk1)
          have cb2 : ∀ xa xc W, La w d (.slice xa (Z ++ ps).length xc) (Z ++ ps) (Z ++ ps) sure (k + 1) W → W.cell? ⟨b1, off1 + k, none⟩ = some (.bool (Bs k)) := fun xa xc W h => (h.below.cell (p := ⟨b1, off1 + k, none⟩) hlt1).trans (hcell1 k hk1)
          have CB2 := Lib.hid cb2
          clear hcell1 cb cb2
          go_wp2_with (at_builtin; refine wpList_allL rfl (.tmp 55) (.tmp 56) rfl d (.slice ya Z.length yc) Z (Z ++ ps) ps sure (k + 1) HF6.out (by rfl) pa n c (by rfl) (HRD.out.below HF6.out.below) HNL.out (by omega) ?_; intro xa xc w7 hf7; have HF7 := Lib.hid hf7; have c9 := CB2.out _ _ _ HF7.out; cases hBk : Bs k <;> rw [hBk] at c9 <;> clear hf7)
          · exact ⟨⟨k + 1, Z ++ ps, sure, xa, xc, by omega, rfl, by rw [List.length_append], rfl, by rw [List.length_append, HPL.out]; omega, HF7⟩, by simp [intOf]; omega⟩
          · have HSY := Lib.hid (HF7.out.sync)
            clear HF7 c9
            refine HSY.out.mono ?_
            rintro e8 w8 ⟨rfl, hf8⟩
            have HF8 := Lib.hid hf8
            clear hf8 HSY
            go_wp2_with fail
            exact ⟨⟨k + 1, Z ++ ps, (Z ++ ps).length, xa, xc, by omega, rfl, by rw [List.length_append], by rw [List.length_append]; rfl, by rw [List.length_append, HPL.out]; omega, HF8⟩, by simp [intOf]; omega⟩
        · have i2 : ¬ (k : Int) < (len1 : Int) := by omega
          go_wp2_with (at_builtin; refine wpList_allL rfl (.tmp 55) (.tmp 56) rfl d (.slice ya Z.length yc) Z (Z ++ ps) ps sure (k + 1) HF6.out (by rfl) pa n c (by rfl) (HRD.out.below HF6.out.below) HNL.out (by omega) ?_; intro xa xc w7 hf7; have HF7 := Lib.hid hf7; clear hf7)
          exact ⟨⟨k + 1, Z ++ ps, sure, xa, xc, by omega, rfl, by rw [List.length_append], rfl, by rw [List.length_append, HPL.out]; omega, HF7⟩, by simp [intOf]; omega⟩
      · have i1 : (1000 : Int) < (n : Int) := by omega
        clear hr hnil
        go_wp2_with fail
        exact ⟨⟨k + 1, Z, sure, ya, yc, by omega, rfl, rfl, rfl, by omega, HF.out.more (by omega)⟩, by simp [intOf]; omega⟩
    · obtain rfl : k = m := by omega
      have ikm : ¬ (k : Int) < (k : Int) := by omega
      have HC := Lib.hid (HF.out.crash keep part (by omega))
      clear HF
      go_wp2_with fail
      refine HC.out.mono ?_
      rintro e6 w6 ⟨rfl, t, ht1, ht2, hlb⟩
      have HLO := Lib.hid hlb.loose
      have HRE := Lib.hid (hlb.read ht2)
      have HBY := Lib.hid hlb.byte
      have it1 : (sure : Int) ≤ (t : Int) := by omega
      have it2 : (t : Int) ≤ (Z.length : Int) := by omega
      clear hlb HC
      go_wp2_with fail
      refine HLO.out.mono ?_
      rintro e7 w7 ⟨rfl, rfl⟩
      go_wp2_with fail
      refine HRE.out.mono ?_
      rintro e8 w8 ⟨za, zc, rfl, hrd, hown, hb8⟩
      obtain ⟨xa, xc, hxv, hxl, _, hxr⟩ := hown.rd HBY.out
      obtain ⟨e1, _, e3⟩ := Value.slice.inj hxv
      subst e1 e3
      have HB := Lib.hid hb8
      have hhd := fun W => run_headAt W ya Z.length yc t (by omega)
      have HSM := Lib.hid (same_c za ya t zc t yc (Z.take t) (Z.take t) w8 hrd (hxr.take t ht2) (by omega))
      rw [decide_eq_true rfl] at HSM
      clear hrd hown hb8 hxv hxr HLO HRE
      go_wp2_with fail
      refine HSM.out.mono ?_
      rintro e9 w9 ⟨rfl, n9, rfl⟩
      go_wp2_with fail
      go_ret
      exact ⟨rfl, HB.out.trans (below_drewN' _ _ _)⟩
end Go.Proofs.Ytjpcbmfnjifgfaa
