/-
  The walk over the document's ReadText.
-/
import Derived.Test.YtjjkfbebaoikbaaDoorTxq
namespace Go.Proofs.YtjjkfbebaoikbaaDoor
open Go.RowKit

set_option maxRecDepth 100000 in
set_option maxHeartbeats 1600000 in
/-- the document's ReadText tells 'rt' -/
theorem refReadText_c (a : Option Addr) (len cap : Nat) (zs : List Nat) (most : Int) (w : World) (h : Rd w a len zs) (hcap : len ≤ cap) (hm : len ≤ 140737488355328) (hm0 : cap ≤ 9223372036854775807) (hm1 : -9223372036854775808 ≤ most) (hm2 : most ≤ 9223372036854775807) :
    Calls Tryd.prog 36 #[.slice a len cap, .int .i64 most] w (RtRet w.heap.size w (rt zs most)) := by
  obtain ⟨x, u, e, hrd⟩ : ∃ x u e, Cntm.rd 0 0 zs = (x, u, e) := ⟨_, _, _, rfl⟩
  have hc := (refReadCount_c a len cap zs w h (by omega)).mono fun e w' h => read_ret hrd h
  by_cases he : e = 0
  · subst he
    obtain ⟨hu0, hu1⟩ : 0 < u ∧ u ≤ zs.length := by
      obtain ⟨_, _, h1, h2, _, _⟩ := Cntm.rd_ok zs 0 0 x u h.2.1 hrd
      omega
    have hl := h.1
    by_cases hl0 : most < 0
    · have HR := Lib.hid (rt_lim hrd (.inl hl0))
      clear hrd
      go_enter Tryd.func36, Tryd.ntmps36
      go_wp2_with fail
      refine hc.mono ?_
      rintro e1 w1 ⟨rfl, rfl⟩
      clear hc
      go_wp2
      go_ret3
      exact rtret_mk HR.out rfl rfl (Own.nil _ _) (Below.refl _ _)
    · obtain ⟨mo, rfl⟩ : ∃ mo : Nat, most = (mo : Int) := ⟨most.toNat, by omega⟩
      by_cases hl1 : mo < x
      · have HR := Lib.hid (rt_lim hrd (.inr (show (mo : Int) < (x : Int) by omega)))
        clear hrd
        go_enter Tryd.func36, Tryd.ntmps36
        go_wp2_with fail
        refine hc.mono ?_
        rintro e1 w1 ⟨rfl, rfl⟩
        clear hc
        go_wp2
        go_ret3
        exact rtret_mk HR.out rfl rfl (Own.nil _ _) (Below.refl _ _)
      · by_cases hs : len - u < x
        · have HR := Lib.hid (rt_short hrd (show ¬ ((mo : Int) < 0 ∨ (mo : Int) < (x : Int)) by omega) (by rw [hl]; exact hs))
          have hsi : (len : Int) - (u : Int) < (x : Int) := by omega
          have hge : (0 : Int) ≤ (len : Int) - (u : Int) := by omega
          clear hrd
          go_enter Tryd.func36, Tryd.ntmps36
          go_wp2_with fail
          refine hc.mono ?_
          rintro e1 w1 ⟨rfl, rfl⟩
          clear hc
          go_wp2
          go_ret3
          exact rtret_mk HR.out rfl rfl (Own.nil _ _) (Below.refl _ _)
        · have h' := h
          obtain ⟨hlz, hz, h0 | ⟨b, off, rfl, hb, hcell⟩⟩ := h
          · omega
          exact refReadText_ok b off len cap x u zs mo w (by omega) hcap hm hm0 hb h' hcell hrd (by omega) (by omega) (by omega)
  · have HR := Lib.hid (rt_err (most := most) hrd he)
    have hee : ((e : Int) != 0) = true := by simp; omega
    clear hrd
    go_enter Tryd.func36, Tryd.ntmps36
    go_wp2_with fail
    refine hc.mono ?_
    rintro e1 w1 ⟨rfl, rfl⟩
    clear hc
    go_wp2
    go_ret3
    exact rtret_mk HR.out rfl rfl (Own.nil _ _) (Below.refl _ _)
end Go.Proofs.YtjjkfbebaoikbaaDoor
