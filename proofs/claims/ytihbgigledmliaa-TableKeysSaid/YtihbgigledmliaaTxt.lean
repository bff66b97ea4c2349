/-
  The walks over Text and ReadText, the program's and the document's.
-/
import Derived.Test.YtihbgigledmliaaPka
import Derived.Test.YtihbgigledmliaaCnt
import Derived.Test.YtihbgigledmliaaRdc
namespace Go.Proofs.Ytihbgigledmliaa
open Go.RowKit

set_option maxRecDepth 100000 in
set_option maxHeartbeats 800000 in
theorem text_c (a : Option Addr) (len cap : Nat) (zs : List Nat) (w : World) (h : Rd w a len zs) (hnil : a = none → cap = 0) (hm : len ≤ 140737488351232) :
    Calls Try.prog 54 #[.slice a len cap] w (RetB w.heap.size w (Cntm.cnt len ++ zs)) := by
  have hl := h.1
  have h10 := Cntm.cnt_len10 len (by omega)
  have hc := fun W => count_c len W (by omega)
  go_enter Try.func54, Try.ntmps54
  go_wp2_with fail
  refine (hc _).mono ?_
  rintro e w1 ⟨v1, rfl, ho1, hb1⟩
  have h1 := h.below hb1
  go_wp2_with (at_builtin; refine wpList_cat rfl _ _ rfl w.heap.size v1 _ zs rfl ho1 hb1.size a len cap rfl h1 hnil (by omega) ?_)
  intro v2 w2 ho2 hb2
  go_wp2_with fail
  go_ret
  exact ⟨_, rfl, ho2, hb1.trans hb2⟩

/-- what is read: bytes, how many in all, the error -/
def rt (zs : List Nat) (most : Int) : List Nat × Nat × Nat :=
  if (Cntm.rd 0 0 zs).2.2 ≠ 0 then ([], 0, (Cntm.rd 0 0 zs).2.2)
  else if most < 0 ∨ most < ((Cntm.rd 0 0 zs).1 : Int) then ([], 0, 8)
  else if zs.length - (Cntm.rd 0 0 zs).2.1 < (Cntm.rd 0 0 zs).1 then ([], 0, 9)
  else ((zs.drop (Cntm.rd 0 0 zs).2.1).take (Cntm.rd 0 0 zs).1, (Cntm.rd 0 0 zs).2.1 + (Cntm.rd 0 0 zs).1, 0)
def RtRet (B : Nat) (w : World) (r : List Nat × Nat × Nat) (e : Ending) (w' : World) : Prop :=
  ∃ v, e = .returned (.tuple #[v, .int .i64 (r.2.1 : Int), .int .i64 (r.2.2 : Int)]) ∧ Own w' B v r.1 ∧ Below B w w'
theorem rt_err {zs : List Nat} {most : Int} {x u e : Nat} (h : Cntm.rd 0 0 zs = (x, u, e)) (he : e ≠ 0) : rt zs most = ([], 0, e) := by
  unfold rt; rw [h]; simp [he]
theorem rt_lim {zs : List Nat} {most : Int} {x u : Nat} (h : Cntm.rd 0 0 zs = (x, u, 0)) (hl : most < 0 ∨ most < (x : Int)) : rt zs most = ([], 0, 8) := by
  unfold rt; rw [h]; simp [hl]
theorem rt_short {zs : List Nat} {most : Int} {x u : Nat} (h : Cntm.rd 0 0 zs = (x, u, 0)) (hl : ¬ (most < 0 ∨ most < (x : Int))) (hs : zs.length - u < x) : rt zs most = ([], 0, 9) := by
  unfold rt; rw [h]; simp only [ne_eq, not_true_eq_false, if_false, if_neg hl, if_pos hs]
theorem rt_ok {zs : List Nat} {most : Int} {x u : Nat} (h : Cntm.rd 0 0 zs = (x, u, 0)) (hl : ¬ (most < 0 ∨ most < (x : Int))) (hs : ¬ zs.length - u < x) : rt zs most = ((zs.drop u).take x, u + x, 0) := by
  unfold rt; rw [h]; simp only [ne_eq, not_true_eq_false, if_false, if_neg hl, if_neg hs]
theorem rtret_mk {B : Nat} {w w' : World} {zs P : List Nat} {most : Int} {u e : Nat} {v : Value} {b c : Int} (h : rt zs most = (P, u, e)) (hb : b = (u : Int)) (hc : c = (e : Int)) (ho : Own w' B v P) (hbe : Below B w w') :
    RtRet B w (rt zs most) (.returned (.tuple #[v, .int .i64 b, .int .i64 c])) w' := by
  rw [h]; subst hb hc; exact ⟨v, rfl, ho, hbe⟩
theorem read_ret {r : Nat × Nat × Nat} {x u e : Nat} (hr : r = (x, u, e)) {w : World} {en : Ending} {w' : World} (h : RdcRet r w en w') : en = .returned (.tuple #[.int .u64 (x : Int), .int .i64 (u : Int), .int .i64 (e : Int)]) ∧ w = w' := by
  subst hr
  exact h

set_option maxRecDepth 100000 in
set_option maxHeartbeats 1600000 in
/-- ReadText tells 'rt' -/
theorem readText_c (a : Option Addr) (len cap : Nat) (zs : List Nat) (most : Int) (w : World) (h : Rd w a len zs) (hcap : len ≤ cap) (hm : len ≤ 140737488355328) (hm0 : cap ≤ 9223372036854775807) (hm1 : -9223372036854775808 ≤ most) (hm2 : most ≤ 9223372036854775807) :
    Calls Try.prog 53 #[.slice a len cap, .int .i64 most] w (RtRet w.heap.size w (rt zs most)) := by
  obtain ⟨x, u, e, hrd⟩ : ∃ x u e, Cntm.rd 0 0 zs = (x, u, e) := ⟨_, _, _, rfl⟩
  have hc := (readCount_c a len cap zs w h (by omega)).mono fun e w' h => read_ret hrd h
  by_cases he : e = 0
  · subst he
    obtain ⟨hu0, hu1⟩ : 0 < u ∧ u ≤ zs.length := by
      obtain ⟨_, _, h1, h2, _, _⟩ := Cntm.rd_ok zs 0 0 x u h.2.1 hrd
      omega
    have hl := h.1
    by_cases hl0 : most < 0
    · have HR := Lib.hid (rt_lim hrd (.inl hl0))
      clear hrd
      go_enter Try.func53, Try.ntmps53
      go_wp2_with fail
      refine hc.mono ?_
      rintro e1 w1 ⟨rfl, rfl⟩
      clear hc
      go_wp2
      go_ret3
      exact rtret_mk HR.out rfl rfl (Own.nil _ _) (Below.refl _ _)
    · obtain ⟨mo, rfl⟩ : ∃ mo : Nat, most = (mo : Int) := ⟨most.toNat, by omega⟩
      by_cases hl1 : mo < x
      · have HR := Lib.hid (rt_lim hrd (.inr (show (mo : Int) < (x : Int) by omega)))
        clear hrd
        go_enter Try.func53, Try.ntmps53
        go_wp2_with fail
        refine hc.mono ?_
        rintro e1 w1 ⟨rfl, rfl⟩
        clear hc
        go_wp2
        go_ret3
        exact rtret_mk HR.out rfl rfl (Own.nil _ _) (Below.refl _ _)
      · by_cases hs : len - u < x
        · have HR := Lib.hid (rt_short hrd (show ¬ ((mo : Int) < 0 ∨ (mo : Int) < (x : Int)) by omega) (by rw [hl]; exact hs))
          have hsi : (len : Int) - (u : Int) < (x : Int) := by omega
          have hge : (0 : Int) ≤ (len : Int) - (u : Int) := by omega
          clear hrd
          go_enter Try.func53, Try.ntmps53
          go_wp2_with fail
          refine hc.mono ?_
          rintro e1 w1 ⟨rfl, rfl⟩
          clear hc
          go_wp2
          go_ret3
          exact rtret_mk HR.out rfl rfl (Own.nil _ _) (Below.refl _ _)
        · have HR := Lib.hid (rt_ok hrd (show ¬ ((mo : Int) < 0 ∨ (mo : Int) < (x : Int)) by omega) (by rw [hl]; exact hs))
          obtain ⟨hlz, hz, h0 | ⟨b, off, rfl, hb, hcell⟩⟩ := h
          · omega
          have h : Rd w (some ⟨b, off, none⟩) len zs := ⟨hlz, hz, .inr ⟨b, off, rfl, hb, hcell⟩⟩
          have hsi : ¬ (len : Int) - (u : Int) < (x : Int) := by omega
          have hge : (0 : Int) ≤ (len : Int) - (u : Int) := by omega
          have q1 : (u : Int) + (x : Int) ≤ (cap : Int) := by omega
          have hd := (h.drop u).take x (by omega)
          have hlen : ([] : List Nat).length + ((zs.drop u).take x).length ≤ 140737488355328 := by rw [hd.1]; simp; omega
          obtain ⟨P, hP⟩ : ∃ P, P = (zs.drop u).take x := ⟨_, rfl⟩
          rw [← hP] at hd hlen
          have HP := Lib.hid hP
          clear hrd hcell h hP hz hlz
          by_cases hx0 : x = 0
          · subst hx0
            have hr0 : ∀ ad, Rd w ad 0 P := fun ad => ⟨hd.1, hd.2.1, .inl rfl⟩
            clear hd
            by_cases hcu : cap = u
            · obtain rfl : len = cap := by omega
              subst hcu
              go_enter Try.func53, Try.ntmps53
              go_wp2_with fail
              refine hc.mono ?_
              rintro e1 w1 ⟨rfl, rfl⟩
              clear hc
              go_wp2_with (at_builtin; refine wpList_cat rfl _ _ rfl w.heap.size _ [] P rfl (Own.nil _ _) (Nat.le_refl _) _ 0 _ rfl (hr0 _) (by simp) hlen ?_)
              intro v2 w2 ho2 hb2
              go_wp2
              go_ret3
              exact rtret_mk HR.out (by omega) rfl (by rw [← HP.out]; exact ho2) hb2
            · go_enter Try.func53, Try.ntmps53
              go_wp2_with fail
              refine hc.mono ?_
              rintro e1 w1 ⟨rfl, rfl⟩
              clear hc
              go_wp2_with (at_builtin; refine wpList_cat rfl _ _ rfl w.heap.size _ [] P rfl (Own.nil _ _) (Nat.le_refl _) _ 0 _ rfl (hr0 _) (by simp) hlen ?_)
              intro v2 w2 ho2 hb2
              go_wp2
              go_ret3
              exact rtret_mk HR.out (by omega) rfl (by rw [← HP.out]; exact ho2) hb2
          · have hcu : ¬ cap = u := by omega
            go_enter Try.func53, Try.ntmps53
            go_wp2_with fail
            refine hc.mono ?_
            rintro e1 w1 ⟨rfl, rfl⟩
            clear hc
            go_wp2_with (at_builtin; refine wpList_cat rfl _ _ rfl w.heap.size _ [] P rfl (Own.nil _ _) (Nat.le_refl _) _ _ _ rfl ?hrd ?hn hlen ?_)
            case hrd => rw [show u + x - u = x by omega]; exact hd
            case hn => simp
            intro v2 w2 ho2 hb2
            go_wp2
            go_ret3
            exact rtret_mk HR.out (by omega) rfl (by rw [← HP.out]; exact ho2) hb2
  · have HR := Lib.hid (rt_err (most := most) hrd he)
    have hee : ((e : Int) != 0) = true := by simp; omega
    clear hrd
    go_enter Try.func53, Try.ntmps53
    go_wp2_with fail
    refine hc.mono ?_
    rintro e1 w1 ⟨rfl, rfl⟩
    clear hc
    go_wp2
    go_ret3
    exact rtret_mk HR.out rfl rfl (Own.nil _ _) (Below.refl _ _)

end Go.Proofs.Ytihbgigledmliaa
