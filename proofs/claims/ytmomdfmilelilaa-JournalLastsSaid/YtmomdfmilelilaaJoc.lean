/-
  A journal appends the frames of records to a file.
-/
import Derived.Test.YtmomdfmilelilaaJob
namespace Go.Proofs.Ytmomdfmilelilaa
open Go.RowKit
set_option linter.unusedVariables false
/-- records in memory, in blocks below B or of X -/
structure Rcd (X : Nat → Prop) (B : Nat) (w : World) (a : Option Addr) (n : Nat) (ps : List (List Nat)) : Prop where
  ln : ps.length = n
  rc : ∀ (k : Nat) (p : List Nat), ps[k]? = some p → ∃ b o pa pc, a = some ⟨b, o, none⟩ ∧ (b < B ∨ X b) ∧ b < w.heap.size ∧ w.cell? ⟨b, o + k, none⟩ = some (.slice pa p.length pc) ∧ Rd w pa p.length p ∧ (∀ b' o' s, pa = some ⟨b', o', s⟩ → p.length ≠ 0 → b' < B ∨ X b') ∧ (pa = none → pc = 0) ∧ p.length ≤ pc ∧ pc ≤ 9223372036854775807
theorem rd_blkJ {W : World} {a : Option Addr} {n : Nat} {z : List Nat} (h : Rd W a n z) {b o : Nat} {s : Option _} (e : a = some ⟨b, o, s⟩) (hn : n ≠ 0) : b < W.heap.size := by
  obtain ⟨b', off, h1, h2, _⟩ := h.2.2.resolve_left hn
  rw [h1] at e
  cases e
  exact h2
theorem rd_stay {W W' : World} {a : Option Addr} {n : Nat} {z : List Nat} (h : Rd W a n z) (hz : W.heap.size ≤ W'.heap.size) (hk : ∀ b o s, a = some ⟨b, o, s⟩ → n ≠ 0 → W'.heap[b]? = W.heap[b]?) : Rd W' a n z := by
  obtain ⟨h1, h2, h3⟩ := h
  refine ⟨h1, h2, ?_⟩
  by_cases h0 : n = 0
  · exact .inl h0
  · obtain ⟨b, off, rfl, hb, hc⟩ := h3.resolve_left h0
    have hk' := hk b off none rfl h0
    exact .inr ⟨b, off, rfl, Nat.lt_of_lt_of_le hb hz, fun i hi => (World.cell?_of_block (a := ⟨b, off + i, none⟩) hk').trans (hc i hi)⟩
theorem Rcd.stay {X : Nat → Prop} {B : Nat} {w w' : World} {a : Option Addr} {n : Nat} {ps : List (List Nat)} (h : Rcd X B w a n ps) (hz : w.heap.size ≤ w'.heap.size) (hk : ∀ j, j < w.heap.size → (j < B ∨ X j) → w'.heap[j]? = w.heap[j]?) : Rcd X B w' a n ps :=
  ⟨h.ln, fun k p hp => by
    obtain ⟨b, o, pa, pc, h1, h2, h3, h4, h5, h6, h7, h8, h9⟩ := h.rc k p hp
    exact ⟨b, o, pa, pc, h1, h2, Nat.lt_of_lt_of_le h3 hz, (World.cell?_of_block (a := ⟨b, o + k, none⟩) (hk b h3 h2)).trans h4, rd_stay h5 hz (fun b' o' s e hn => hk b' (rd_blkJ h5 e hn) (h6 b' o' s e hn)), h6, h7, h8, h9⟩⟩
theorem Rcd.below {X : Nat → Prop} {B : Nat} {w w' : World} {a : Option Addr} {n : Nat} {ps : List (List Nat)} (h : Rcd X B w a n ps) (hb : Below w.heap.size w w') : Rcd X B w' a n ps := h.stay hb.size fun j hj _ => hb.block j hj
theorem Rcd.kp {X : Nat → Prop} {B : Nat} {w w' : World} {a : Option Addr} {n : Nat} {ps : List (List Nat)} (h : Rcd X B w a n ps) (hb : Below B w w') (hk : KpD X w w') : Rcd X B w' a n ps := h.stay hb.size fun j _ hj => hj.elim (fun e => hb.block j e) fun e => hk j e
theorem Rcd.more {X Y : Nat → Prop} {B : Nat} {w : World} {a : Option Addr} {n : Nat} {ps : List (List Nat)} (h : Rcd X B w a n ps) (hX : ∀ j, X j → Y j) : Rcd Y B w a n ps :=
  ⟨h.ln, fun k p hp => by
    obtain ⟨b, o, pa, pc, h1, h2, h3, h4, h5, h6, h7, h8, h9⟩ := h.rc k p hp
    exact ⟨b, o, pa, pc, h1, h2.imp id (hX _), h3, h4, h5, fun b' o' s e hn => (h6 b' o' s e hn).imp id (hX _), h7, h8, h9⟩⟩
theorem run_bidx (W : World) (b o len cap i : Nat) (hi : i < len) : (Instr.indexAt 29 (.slice (some ⟨b, o, none⟩) len cap) (.int .i64 (i : Int))).run Try.prog W = .ok (.pointer (some ⟨b, o + i, none⟩)) W := by
  rw [run_indexAt_slice W 29 ⟨b, o, none⟩ len cap .i64 (i : Int) (by kernel_rfl)]
  have h1 : (0 : Int) ≤ (i : Int) ∧ (i : Int) < (len : Int) := by omega
  rw [if_pos h1, show (Go.sizeOf (Try.prog.elem 29)).run Try.prog W = .ok 1 W from by kernel_rfl]
  simp [Result.andThen, Addr.add]
theorem flat_take_le (ps : List (List Nat)) (k : Nat) : (Frm.flatF (ps.take k)).length ≤ (Frm.flatF ps).length := by
  conv => rhs; rw [← List.take_append_drop k ps, Frm.flat_app, List.length_append]
  omega
theorem own_blk {w : World} {B : Nat} {a : Option Addr} {n c : Nat} {zs : List Nat} (h : Own w B (.slice a n c) zs) : ∀ b o s, a = some ⟨b, o, s⟩ → B ≤ b ∧ b < w.heap.size := fun b o s e => by
  have := World.ownsRow.lt h
  rcases h.2 with ⟨h1, _⟩ | ⟨g, cap, cur, h1, h2, h3, _⟩
  · cases (Value.slice.inj h1).1; cases e
  · have e1 := (Value.slice.inj h1).1
    rw [e1] at e
    cases e
    exact ⟨h2, (Array.getElem?_eq_some_iff.1 h3).1⟩
set_option maxRecDepth 100000 in
set_option maxHeartbeats 8000000 in
theorem japf_c {X : Nat → Prop} {B d N : Nat} {A : Ad} {w : World} (h : Dx X B d N A w) (hN : N < 1000000000) (s : ByteArray) (hs : s.size ≤ maxLen) (ra : Option Addr) (rn rc : Nat) (ps : List (List Nat)) (hr : Rcd X B w ra rn ps) (hrn : rn ≤ 1000000) (hfl : (Frm.flatF ps).length < 1048576) (hpb : ∀ p ∈ ps, ∀ z ∈ p, z < 256) :
    Calls Try.prog 78 #[.pointer (some ⟨d, 0, none⟩), .string s, .slice ra rn rc] w (DxR X B d (N + 3) w (apF s (Frm.flatF ps) A)) := by
  have HR := Lib.hid hr
  have HFL := Lib.hid (fun k => Nat.lt_of_le_of_lt (flat_take_le ps k) hfl)
  have HPB := Lib.hid hpb
  have HD := Lib.hid h
  have HBW := Lib.hid (Nat.le_of_lt (Nat.lt_of_le_of_lt h.base.1 h.base.2))
  obtain ⟨z, hz⟩ : ∃ z, z = Frm.flatF ps := ⟨_, rfl⟩
  rw [← hz]
  have HZ := Lib.hid hz
  clear hr hfl hpb h hz
  go_enter Try.func78, Try.ntmps78
  go_wp2_with fail
  go_loopw [7, 13] (fun v i wr => ∃ k : Nat, k ≤ rn ∧ i = .int .i64 k ∧ Hid (Own wr w.heap.size v (Frm.flatF (ps.take k))) ∧ Hid (Below w.heap.size w wr)) (fun _ i _ => rn - (intOf i).toNat)
  case atStart => exact ⟨0, Nat.zero_le _, rfl, by simpa [Frm.flatF, Hid] using Own.nil w w.heap.size, Below.refl _ _⟩
  case round =>
    obtain ⟨k, hk, rfl, HO, HB⟩ := hrel
    by_cases hkn : k < rn
    · obtain ⟨p, hp⟩ : ∃ p, ps[k]? = some p := ⟨_, List.getElem?_eq_getElem (by rw [HR.out.ln]; exact hkn)⟩
      have HSN := Lib.hid (Frm.flat_snoc ps k p hp)
      have hpl : p.length < 1048576 := by
        have h1 := HFL.out (k + 1)
        rw [HSN.out, List.length_append, Frm.frame_len] at h1
        omega
      obtain ⟨b, o, pa, pc, rfl, hb1, hb2, hc, hrd, _, hnil, hpc, hpm⟩ := HR.out.rc k p hp
      have hcr := (HB.out.cell (p := ⟨b, o + k, none⟩) hb2).trans hc
      have kI := fun W => run_bidx W b o rn rc k hkn
      have HPB1 := Lib.hid (HPB.out p (List.mem_of_getElem? hp))
      have HFR := Lib.hid ((frame_c pa p.length pc p wr (hrd.below HB.out) hnil (by omega)).mono (RetB.form (Frm.frame_byte p HPB1.out)))
      have HFB := Lib.hid (Frm.flat_byte (ps.take (k + 1)) (fun q hq => HPB.out q (List.mem_of_mem_take hq)))
      have hsz := HB.out.size
      obtain ⟨pn, hpn⟩ : ∃ pn, pn = p.length := ⟨_, rfl⟩
      rw [← hpn] at hcr HFR hpl
      clear hp hb1 hb2 hc hrd hnil hpc hpm hpn
      go_wp2_with fail
      refine HFR.out.mono ?_
      rintro e3 w3 ⟨a3, L3, c3, rfl, hl3, hlc3, hcm3, hn3, hr3, ho3, hb3⟩
      have HO3 := Lib.hid (show Own w3 w.heap.size u7 (Frm.flatF (ps.take k)) from row_keep HO.out fun j hj => hb3.block j (World.ownsRow.lt HO.out j hj).2)
      have HB3 := Lib.hid (HB.out.trans (hb3.mono hsz))
      have HR3 := Lib.hid hr3
      have hpos : 0 < L3 := by rw [← hl3, Frm.frame_len]; omega
      have HLE := Lib.hid (show (Frm.flatF (ps.take k)).length + (Frm.frameL p).length ≤ 140737488355328 from by
        have := HFL.out (k + 1)
        rw [HSN.out, List.length_append] at this
        omega)
      have hsz3 := HB3.out.size
      clear hl3 hlc3 hcm3 hn3 hr3 ho3 hb3 HO HFR hcr kI
      go_upto_region 6 with (at_builtin; (refine wpList_catG rfl (.tmp 17) (.tmp 19) rfl w.heap.size u7 (Frm.flatF (ps.take k)) (Frm.frameL p) rfl HO3.out hsz3 a3 L3 c3 rfl HR3.out hpos HLE.out ?_); intro v4 w4 g1 g2; have HO4 := Lib.hid (show Own w4 w.heap.size v4 (Frm.flatF (ps.take (k + 1))) from by rw [HSN.out]; exact g1); have HB4 := Lib.hid (HB3.out.grown g2 hsz3 (fun q hq => (World.ownsRow.lt HO3.out q hq).1)); clear g1 g2)
      obtain ⟨a4, L4, c4, rfl, hl4, hlc4, hcm4, hn4, hr4, _⟩ := HO4.out.form HFB.out
      have hL4 : decide ((1048576 : Int) ≤ (L4 : Int)) = false := decide_eq_false (by have := HFL.out (k + 1); omega)
      clear hl4 hlc4 hcm4 hn4 hr4 HO3 HB3
      go_wp2_with fail
      refine wp_loop_rounds 1 ?_
      rw [rounds_succ]
      go_wp2_with fail
      go_roundw
      case rel => exact ⟨k + 1, by omega, by go_num, HO4, HB4⟩
      case measure => simp [intOf]; omega
    · have hz := HZ.out
      have hzb : ∀ y ∈ z, y < 256 := by rw [hz]; exact Frm.flat_byte ps HPB.out
      have hoz : Own wr w.heap.size u7 z := by
        have := HO.out
        rwa [List.take_of_length_le (by rw [HR.out.ln]; omega), ← hz] at this
      have hzl : z.length < 1048576 := by have := HFL.out ps.length; rw [List.take_of_length_le (Nat.le_refl _), ← hz] at this; exact this
      clear hz HO HFL
      obtain ⟨a4, L4, c4, rfl, hl4, hlc4, hcm4, hn4, hr4, ho4⟩ := hoz.form hzb
      by_cases h0 : L4 = 0
      · subst h0
        have hz0 : z = [] := List.eq_nil_of_length_eq_zero hl4
        have HE := Lib.hid (show DxR X B d (N + 3) w (apF s z A) (.returned (.int .i64 0)) wr from by
          unfold apF
          rw [if_pos hz0]
          exact ⟨rfl, (HD.out.below HB.out).mono (by omega), HB.out.mono HBW.out, KpD.ofBelow HB.out HD.out.lt⟩)
        clear hoz hl4 hlc4 hcm4 hn4 hr4 ho4 hz0
        go_wp2_with fail
        go_ret
        exact HE.out
      · have hz0 : ¬ z = [] := fun e => h0 (by rw [← hl4, e]; rfl)
        have hL0 : ((L4 : Int) == 0) = false := by simp; omega
        have hL0' : ¬ (L4 : Int) = 0 := by omega
        have hd2 : Dx (fun j => X j ∨ ∃ o s, a4 = some ⟨j, o, s⟩) B d N A wr := HD.out.belowY HB.out (fun j hj => hj.imp id fun ⟨o, s, e⟩ => (own_blk ho4 j o s e).1) (fun j hj => hj.elim (fun e => Nat.lt_of_lt_of_le (HD.out.lt j e) HB.out.size) fun ⟨o, s, e⟩ => (own_blk ho4 j o s e).2)
        have HC := Lib.hid (hd2.append s hs a4 L4 c4 z (by rw [← hl4] at hr4 ⊢; exact hr4) (fun b o sp e _ => .inr (.inr ⟨o, sp, e⟩)) hn4 hN)
        have hap : apF s z A = A.step ⟨1, s, ⟨#[]⟩, z⟩ := by unfold apF; rw [if_neg hz0]
        obtain ⟨r, hr⟩ : ∃ r, A.step ⟨1, s, ⟨#[]⟩, z⟩ = r := ⟨_, rfl⟩
        rw [hr] at HC hap
        obtain ⟨A', x⟩ := r
        have HAP := Lib.hid hap
        clear hoz hl4 hlc4 hcm4 hn4 hr4 ho4 hz0 hd2 hap hr
        go_wp2_with fail
        refine HC.out.mono ?_
        rintro e5 w5 ⟨rfl, g1, g2, g3⟩
        have HE := Lib.hid (show DxR X B d (N + 3) w (apF s z A) (.returned (.int .i64 x)) w5 from by rw [HAP.out]; exact ⟨rfl, g1.less fun j hj => .inl hj, (HB.out.mono HBW.out).trans g2, fun j hj => (g3 j (.inl hj)).trans (HB.out.block j (HD.out.lt j hj))⟩)
        clear g1 g2 g3 HC
        go_wp2_with fail
        go_ret
        exact HE.out
end Go.Proofs.Ytmomdfmilelilaa
