/-
  The walk over the document's Frame.
-/
import Derived.Test.YtjpcbmfnjifgfaaJsc
namespace Go.Proofs.Ytjpcbmfnjifgfaa
open Go.RowKit
set_option linter.unusedVariables false
set_option maxRecDepth 100000 in
set_option maxHeartbeats 4000000 in
theorem rframe_c (a : Option Addr) (len cap : Nat) (p : List Nat) (w : World) (h : Rd w a len p) (hnil : a = none → cap = 0) (hm : len ≤ 140737488355000) :
    Calls Try.prog 69 #[.slice a len cap] w (RetB w.heap.size w (Frm.frameL p)) := by
  have hpl := h.1
  have HP := Lib.hid h
  have HNIL := Lib.hid hnil
  obtain ⟨N4, hN4⟩ : ∃ N4, N4 = Numm.put len 4 := ⟨_, rfl⟩
  have hNl : N4.length = 4 := by rw [hN4, Numm.put_len]
  have HNB := Lib.hid (show ∀ z ∈ N4, z < 256 from by rw [hN4]; exact Numm.put_byte _ _)
  have HPUT0 := Lib.hid ((refPut_in len 4 w (by omega) (by omega) (by omega)).mono (RetB.form (Numm.put_byte _ _)))
  rw [← hN4] at HPUT0
  obtain ⟨K, hK⟩ : ∃ K, K = Frm.crcL (N4 ++ p) := ⟨_, rfl⟩
  have HK32 := Lib.hid (show K < 4294967296 from by rw [hK]; exact Frm.crc_lt _)
  have HEND := Lib.hid (show Frm.frameL p = N4 ++ Numm.put K 4 ++ p from by rw [hK, hN4, ← hpl, List.append_assoc]; rfl)
  have HKE := Lib.hid (show 4294967295 - Crcm.reg 4294967295 (N4 ++ p) = K from hK.symm)
  have HNL := Lib.hid hNl
  have HPL := Lib.hid hpl
  have HNPB := Lib.hid (show ∀ z ∈ N4 ++ p, z < 256 from fun z hz => (List.mem_append.1 hz).elim (HNB.out z) (h.2.1 z))
  have HLE1 := Lib.hid (show N4.length + p.length ≤ 140737488355328 from by rw [hNl, hpl]; omega)
  clear h hnil hK hN4 hNl hpl
  go_enter Try.func69, Try.ntmps69
  go_wp2_with fail
  refine HPUT0.out.mono ?_
  rintro e1 w1 ⟨a1, L1, c1, rfl, hl1, hlc1, hcm1, hn1, hr1, ho1, hb1⟩
  have hL1 : L1 = 4 := by rw [← hl1, HNL.out]
  subst hL1
  have HO1 := Lib.hid ho1
  have HB1 := Lib.hid hb1
  have HTW := Lib.hid ((twin_c a1 4 c1 N4 w1 hr1 (by omega)).mono (RetB.form HNB.out))
  clear hl1 hlc1 hcm1 hn1 hr1 ho1 hb1 HPUT0
  go_wp2_with fail
  refine HTW.out.mono ?_
  rintro e2 w2 ⟨a2, L2, c2, rfl, hl2, hlc2, hcm2, hn2, hr2, ho2, hb2⟩
  have hL2 : L2 = 4 := by rw [← hl2, HNL.out]
  subst hL2
  have HO2 := Lib.hid ho2
  have H12 := Lib.hid hb2
  have HRP := Lib.hid (HP.out.below (HB1.out.trans (hb2.mono HB1.out.size)))
  have hsz2 := hb2.size
  clear hl2 hlc2 hcm2 hn2 hr2 ho2 hb2 HTW
  go_upto_region 4 with (at_builtin; (refine wpList_catR rfl (.tmp 11) (.tmp 12) rfl w1.heap.size _ N4 p rfl HO2.out hsz2 _ _ _ rfl HRP.out HNIL.out HNB.out HLE1.out ?_); intro a3 L3 c3 w3 g1 g2 g3 g4 g5 g6 g7; have HL3 := Lib.hid g1; have HC3 := Lib.hid (And.intro g2 g3); have HR3 := Lib.hid g5; have H13 := Lib.hid (H12.out.trans g7); clear g1 g2 g3 g4 g5 g6 g7)
  have HCRC := Lib.hid (refCrc_c a3 L3 c3 (N4 ++ p) w3 HR3.out (by rw [← HL3.out, List.length_append, HNL.out, HPL.out]; omega))
  rw [HKE.out] at HCRC
  have HPUT := Lib.hid ((refPut_in K 4 w3 (by have := HK32.out; omega) (by omega) (by omega)).mono (RetB.form (Numm.put_byte _ _)))
  have hwK : IntKind.u64.wrap (K : Int) = (K : Int) := wrap_u64_nat K (by have := HK32.out; omega)
  go_wp2_with fail
  refine HCRC.out.mono ?_
  rintro e4 w4 ⟨rfl, rfl⟩
  go_wp2_with fail
  refine HPUT.out.mono ?_
  rintro e5 w5 ⟨a5, L5, c5, rfl, hl5, hlc5, hcm5, hn5, hr5, ho5, hb5⟩
  have HO5 := Lib.hid (HO1.out.keep (H13.out.trans (hb5.mono H13.out.size)))
  have HB5 := Lib.hid (HB1.out.trans ((H13.out.trans (hb5.mono H13.out.size)).mono HB1.out.size))
  have HR5 := Lib.hid hr5
  have HN5 := Lib.hid hn5
  have HLE5 := Lib.hid (show N4.length + (Numm.put K 4).length ≤ 140737488355328 from by rw [HNL.out, Numm.put_len]; omega)
  clear hl5 hlc5 hcm5 hn5 hr5 ho5 hb5 HPUT HCRC hwK
  have hsz5 := HB5.out.size
  obtain ⟨C4, hC4⟩ : ∃ C4, C4 = Numm.put K 4 := ⟨_, rfl⟩
  rw [← hC4] at HEND HR5 HLE5
  have HCB := Lib.hid (show ∀ z ∈ N4 ++ C4, z < 256 from fun z hz => (List.mem_append.1 hz).elim (HNB.out z) (fun h => by rw [hC4] at h; exact Numm.put_byte _ _ z h))
  have HLE6 := Lib.hid (show (N4 ++ C4).length + p.length ≤ 140737488355328 from by rw [List.length_append, HNL.out, HPL.out, hC4, Numm.put_len]; omega)
  clear hC4
  go_upto_region 5 with (at_builtin; (refine wpList_catR rfl (.tmp 14) (.tmp 18) rfl w.heap.size _ N4 C4 rfl HO5.out hsz5 _ _ _ rfl HR5.out HN5.out HNB.out HLE5.out ?_); intro a6 L6 c6 w6 g1 g2 g3 g4 g5 g6 g7; have HO6 := Lib.hid g6; have HB6 := Lib.hid (HB5.out.trans g7); clear g1 g2 g3 g4 g5 g6 g7)
  have HRP6 := Lib.hid (HP.out.below HB6.out)
  have hsz6 := HB6.out.size
  clear HO5 HB5
  go_wp2_with (at_builtin; (refine wpList_catR rfl (.tmp 20) (.tmp 21) rfl w.heap.size _ (N4 ++ C4) p rfl HO6.out hsz6 _ _ _ rfl HRP6.out HNIL.out HCB.out HLE6.out ?_); intro a7 L7 c7 w7 g1 g2 g3 g4 g5 g6 g7; have HO7 := Lib.hid g6; have HB7 := Lib.hid (HB6.out.trans g7); clear g1 g2 g3 g4 g5 g6 g7)
  go_ret
  refine ⟨_, rfl, ?_, HB7.out⟩
  rw [HEND.out]
  exact HO7.out
end Go.Proofs.Ytjpcbmfnjifgfaa
