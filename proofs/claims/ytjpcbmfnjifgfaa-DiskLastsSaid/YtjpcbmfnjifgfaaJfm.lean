/-
  The walk over a record's frame.
-/
import Derived.Test.YtjpcbmfnjifgfaaJfl
namespace Go.Proofs.Ytjpcbmfnjifgfaa
open Go.RowKit
set_option linter.unusedVariables false
theorem wrap_u64_nat (K : Nat) (h : K < 18446744073709551616) : IntKind.u64.wrap (K : Int) = (K : Int) := by
  have e : IntKind.u64.wrap (K : Int) = (K : Int) % 18446744073709551616 := by simp [IntKind.wrap, IntKind.bits, IntKind.signed]
  rw [e]
  omega
def hdr (w : World) (x y z : Value) : World := w.alloc (.cells #[x, y, z] 30)
set_option maxRecDepth 100000 in
set_option maxHeartbeats 4000000 in
/-- journal.Frame: the record's frame, in new memory -/
theorem frame_c (a : Option Addr) (len cap : Nat) (p : List Nat) (w : World) (h : Rd w a len p) (hnil : a = none → cap = 0) (hm : len ≤ 140737488355000) :
    Calls Try.prog 47 #[.slice a len cap] w (RetB w.heap.size w (Frm.frameL p)) := by
  have hpl := h.1
  have HP := Lib.hid h
  have HNIL := Lib.hid hnil
  obtain ⟨N4, hN4⟩ : ∃ N4, N4 = Numm.put len 4 := ⟨_, rfl⟩
  have hNl : N4.length = 4 := by rw [hN4, Numm.put_len]
  have HNB := Lib.hid (show ∀ z ∈ N4, z < 256 from by rw [hN4]; exact Numm.put_byte _ _)
  have HPUT0 := Lib.hid ((put_in len 4 w (by omega) (by omega)).mono (RetB.form (Numm.put_byte _ _)))
  rw [← hN4] at HPUT0
  obtain ⟨K, hK⟩ : ∃ K, K = Frm.crcL (N4 ++ p) := ⟨_, rfl⟩
  have HK32 := Lib.hid (show K < 4294967296 from by rw [hK]; exact Frm.crc_lt _)
  have HEND := Lib.hid (show Frm.frameL p = N4 ++ (Numm.put K 4 ++ p) from by rw [hK, hN4, ← hpl]; rfl)
  have HKE := Lib.hid (show 4294967295 - Crcm.reg 4294967295 (N4 ++ p) = K from hK.symm)
  have HNL := Lib.hid hNl
  have HPL := Lib.hid hpl
  clear h hnil hK hN4 hNl hpl
  go_enter Try.func47, Try.ntmps47
  go_wp2_with fail
  refine HPUT0.out.mono ?_
  rintro e1 w1 ⟨a1, L1, c1, rfl, hl1, hlc1, hcm1, hn1, hr1, ho1, hb1⟩
  have hL1 : L1 = 4 := by rw [← hl1, HNL.out]
  subst hL1
  have HR1 := Lib.hid hr1
  have HN1 := Lib.hid hn1
  have HB1 := Lib.hid hb1
  clear hl1 hlc1 hcm1 hn1 hr1 ho1 hb1 HPUT0
  have HH := Lib.hid (heap_alloc_new w1 (.cells #[.slice a1 4 c1, .slice a1 4 c1, .slice a len cap] 30))
  have HBH := Lib.hid (show Below w1.heap.size w1 (hdr w1 (.slice a1 4 c1) (.slice a1 4 c1) (.slice a len cap)) from (Below.refl _ _).alloc (Nat.le_refl _) _)
  have HCAT : Hid (Calls Try.prog 74 #[.slice (some ⟨w1.heap.size, 0, none⟩) 3 3] (hdr w1 (.slice a1 4 c1) (.slice a1 4 c1) (.slice a len cap)) (RetB (hdr w1 (.slice a1 4 c1) (.slice a1 4 c1) (.slice a len cap)).heap.size (hdr w1 (.slice a1 4 c1) (.slice a1 4 c1) (.slice a len cap)) (N4 ++ (N4 ++ p)))) := by
    have hc := concat_c [(a1, 4, c1, N4), (a1, 4, c1, N4), (a, len, cap, p)] w1.heap.size 3 3 (hdr w1 (.slice a1 4 c1) (.slice a1 4 c1) (.slice a len cap)) rfl (by omega) (by simp [hdr]) ?_ ?_ ?_
    · have e : catS [(a1, 4, c1, N4), (a1, 4, c1, N4), (a, len, cap, p)] = N4 ++ (N4 ++ p) := by simp [catS, slz]
      rw [e] at hc
      exact Lib.hid hc
    · intro i s hs
      have hcell : ∀ j, (hdr w1 (.slice a1 4 c1) (.slice a1 4 c1) (.slice a len cap)).cell? ⟨w1.heap.size, j, none⟩ = (#[Value.slice a1 4 c1, .slice a1 4 c1, .slice a len cap])[j]? := fun j => cell_of_row _ _ _ _ _ _ HH.out
      rw [hcell]
      match i, hs with
      | 0, hs => cases hs; rfl
      | 1, hs => cases hs; rfl
      | 2, hs => cases hs; rfl
      | i + 3, hs => simp at hs
    · intro s hs
      have h1 : SlOk (hdr w1 (.slice a1 4 c1) (.slice a1 4 c1) (.slice a len cap)) (a1, 4, c1, N4) := ⟨HR1.out.below HBH.out, HN1.out⟩
      have h2 : SlOk (hdr w1 (.slice a1 4 c1) (.slice a1 4 c1) (.slice a len cap)) (a, len, cap, p) := ⟨(HP.out.below HB1.out).below HBH.out, HNIL.out⟩
      simp only [List.mem_cons, List.not_mem_nil, or_false] at hs
      rcases hs with rfl | rfl | rfl
      · exact h1
      · exact h1
      · exact h2
    · have e : catS [(a1, 4, c1, N4), (a1, 4, c1, N4), (a, len, cap, p)] = N4 ++ (N4 ++ p) := by simp [catS, slz]
      rw [e]
      simp only [List.length_append, HNL.out, HPL.out]
      omega
  go_wp2_with fail
  refine HCAT.out.mono ?_
  rintro e2 w2 ⟨v2, rfl, ho2, hb2⟩
  have hbb : Below w.heap.size w w2 := (HB1.out.trans (HBH.out.mono HB1.out.size)).trans (hb2.mono (by have := HB1.out.size; have := HBH.out.size; omega))
  have hob : Own w2 w.heap.size v2 (N4 ++ (N4 ++ p)) := own_base ho2 (by have := HB1.out.size; have := HBH.out.size; omega)
  have hby : ∀ z ∈ N4 ++ (N4 ++ p), z < 256 := by
    intro z hz
    simp only [List.mem_append] at hz
    rcases hz with hz | hz | hz
    · exact HNB.out z hz
    · exact HNB.out z hz
    · exact HP.out.2.1 z hz
  have hZl : (N4 ++ (N4 ++ p)).length = len + 8 := by simp only [List.length_append, HNL.out, HPL.out]; omega
  have hform : ∃ g c, v2 = .slice (some ⟨g, 0, none⟩) (len + 8) c ∧ len + 8 ≤ c := by
    rcases hob.2 with ⟨_, h0⟩ | ⟨g, c, cur, rfl, _, _, hn, _⟩
    · omega
    · exact ⟨g, c, by rw [hZl], by omega⟩
  obtain ⟨g, c, rfl, hLc⟩ := hform
  obtain ⟨L, hL⟩ : ∃ L, L = len + 8 := ⟨_, rfl⟩
  rw [← hL] at hob hLc hZl ⊢
  have HS0 := Lib.hid (show FrmW w g L c (N4 ++ (N4 ++ p)) w2 from ⟨hob, hZl, hby, hbb⟩)
  have hZ8 : 8 ≤ L := by omega
  have hL4 : 4 ≤ L := by omega
  have hc4 : 4 < c := by omega
  have HS := Lib.hid HS0.out.drew
  have HCRC : Hid (∀ W, FrmW w g L c (N4 ++ (N4 ++ p)) W → Calls Try.prog 75 #[.slice (some ⟨g, 4, none⟩) (L - 4) (c - 4)] W fun e w' => e = .returned (.int .u32 (K : Int)) ∧ W = w') := Lib.hid fun W hW => by
    obtain ⟨a', cap', hv, _, _, hrd⟩ := hW.own.rd hW.byte
    rw [hW.len] at hrd hv
    cases hv
    have hd := hrd.drop 4
    rw [show (N4 ++ (N4 ++ p)).drop 4 = N4 ++ p by rw [List.drop_append_of_le_length (by rw [HNL.out]; exact Nat.le_refl _), List.drop_of_length_le (by rw [HNL.out]; exact Nat.le_refl _)]; rfl, Nat.zero_add] at hd
    have hc := crc_c (some ⟨g, 4, none⟩) (L - 4) (c - 4) (N4 ++ p) W hd (by omega)
    rw [HKE.out] at hc
    exact hc
  have HPUT : Hid (∀ W, Calls Try.prog 73 #[.int .u64 (K : Int), .int .i64 4] W (RetB W.heap.size W (Numm.put K 4))) := Lib.hid fun W => put_in K 4 W (by have := HK32.out; omega) (by omega)
  clear hob hbb hby hZl hL hLc ho2 hb2 HH HBH HCAT HR1 HN1 HB1
  have hwK : IntKind.u64.wrap (K : Int) = (K : Int) := wrap_u64_nat K (by have := HK32.out; omega)
  go_upto_region 3 with fail
  (try dsimp only [Act.put, List.setIfInBounds_toArray, List.set_cons_zero, List.set_cons_succ])
  refine anyH_begin (S := FrmS w g L c) (by kernel_rfl) ?_
  refine anyH_pureG 0 (d := 14) (op := .move (.tmp 4)) (gd := none) (.slice (some ⟨g, 0, none⟩) L c) (by rfl) (fun o ho => wanted_plain ho _) (by kernel_rfl) (by kernel_rfl) (by kernel_rfl) (fun _ _ _ h => h) (fun o ho W hW => by unfold execOp; simp only [ho]; go_simp) HS.out.held ?_
  simp only [Act.put, List.setIfInBounds_toArray, List.set_cons_zero, List.set_cons_succ]
  refine anyH_pureG 1 (d := 15) (op := .slice 30 (.tmp 14) (some (.const (.int .i64 4))) none none) (gd := none) (.slice (some ⟨g, 4, none⟩) (L - 4) (c - 4)) (by rfl) (fun o ho => wanted_plain ho _) (by kernel_rfl) (by kernel_rfl) (by kernel_rfl) (fun _ _ _ h => h) (fun o ho W hW => exec_cut4 hL4 hc4 g _ (by rfl) o ho W) HS.out.held ?_
  simp only [Act.put, List.setIfInBounds_toArray, List.set_cons_zero, List.set_cons_succ]
  refine anyH_pureG 2 (d := 16) (op := .move (.tmp 4)) (gd := none) (.slice (some ⟨g, 0, none⟩) L c) (by rfl) (fun o ho => wanted_plain ho _) (by kernel_rfl) (by kernel_rfl) (by kernel_rfl) (fun _ _ _ h => h) (fun o ho W hW => by unfold execOp; simp only [ho]; go_simp) HS.out.held ?_
  simp only [Act.put, List.setIfInBounds_toArray, List.set_cons_zero, List.set_cons_succ]
  refine anyH_pureG 3 (d := 17) (op := .slice 30 (.tmp 16) (some (.const (.int .i64 4))) none none) (gd := none) (.slice (some ⟨g, 4, none⟩) (L - 4) (c - 4)) (by rfl) (fun o ho => wanted_plain ho _) (by kernel_rfl) (by kernel_rfl) (by kernel_rfl) (fun _ _ _ h => h) (fun o ho W hW => exec_cut4 hL4 hc4 g _ (by rfl) o ho W) HS.out.held ?_
  simp only [Act.put, List.setIfInBounds_toArray, List.set_cons_zero, List.set_cons_succ]
  refine anyH_callG 4 (d := some 18) (f := 75) (xs := #[(.tmp 17)]) (ts := #[30]) (gd := none) (vs := #[.slice (some ⟨g, 4, none⟩) (L - 4) (c - 4)]) (by kernel_rfl) (by rfl) (fun o ho => wanted_plain ho _) (by go_simp) (by go_simp) (HCRC.out _ HS.out) ?_
  rintro e W1 ⟨rfl, hW1⟩
  subst hW1
  refine ⟨_, rfl, HS.out.held, fun _ => ?_⟩
  simp only [Act.put, List.setIfInBounds_toArray, List.set_cons_zero, List.set_cons_succ]
  refine anyH_pureG 5 (d := 19) (op := .convert 121 112 (.tmp 18)) (gd := none) (.int .u64 (K : Int)) (by rfl) (fun o ho => wanted_plain ho _) (by kernel_rfl) (by kernel_rfl) (by kernel_rfl) (fun _ _ _ h => h) (fun o ho W hW => by unfold execOp; simp only [ho]; go_simp; try exact hwK) HS.out.held ?_
  simp only [Act.put, List.setIfInBounds_toArray, List.set_cons_zero, List.set_cons_succ]
  refine anyH_callG 6 (d := some 20) (f := 73) (xs := #[(.tmp 19), (.const (.int .i64 4))]) (ts := #[112, 3]) (gd := none) (vs := #[.int .u64 (K : Int), (.int .i64 4)]) (by kernel_rfl) (by rfl) (fun o ho => wanted_plain ho _) (by go_simp) (by go_simp) ((HPUT.out _).mono (RetB.form (Numm.put_byte _ _))) ?_
  rintro e W2 ⟨a2, L2, c2, rfl, hl2, hlc2, hcm2, hn2, hr2, ho2, hb2⟩
  have HR2 := Lib.hid hr2
  have HS2 := Lib.hid (HS.out.step hb2)
  have hL2 : L2 = 4 := by rw [← hl2, Numm.put_len]
  clear hl2 hlc2 hcm2 hn2 hr2 ho2 hb2
  subst hL2
  refine ⟨_, rfl, HS2.out.held, fun _ => ?_⟩
  simp only [Act.put, List.setIfInBounds_toArray, List.set_cons_zero, List.set_cons_succ]
  obtain ⟨W3, hrun, HS3⟩ := frm_copy HS2.out HR2.out hZ8 c2
  refine anyH_runG 7 (d := some 21) (op := .call { callee := .builtin .copy, args := #[(.tmp 15), (.tmp 20)], argTypes := #[30, 30] }) (v := .int .i64 4) (w' := W3) (by kernel_rfl) (by rfl) (fun o ho => ?_) HS3.held ?_
  · exact exec_copy ho (by rfl) (by rfl) (hrun o.type)
  simp only [Act.put, List.setIfInBounds_toArray, List.set_cons_zero, List.set_cons_succ]
  refine wpAnyH_done (by kernel_rfl) ?_ _
  have HF := Lib.hid (show FrmW w g L c (Frm.frameL p) W3 from by
    have h := HS3
    rw [HEND.out]
    have e1 : (N4 ++ (N4 ++ p)).take 4 = N4 := by rw [List.take_append_of_le_length (by rw [HNL.out]; exact Nat.le_refl _), List.take_of_length_le (by rw [HNL.out]; exact Nat.le_refl _)]
    have e2 : (N4 ++ (N4 ++ p)).drop 8 = p := by
      rw [← List.append_assoc, List.drop_append_of_le_length (by simp only [List.length_append, HNL.out]; omega), List.drop_of_length_le (by simp only [List.length_append, HNL.out]; omega)]; rfl
    rw [e1, e2] at h
    exact h)
  clear HS3 hrun HS2 HR2 HS HS0
  go_wp2_with fail
  go_ret
  exact ⟨_, rfl, HF.out.own, HF.out.below⟩
end Go.Proofs.Ytjpcbmfnjifgfaa
