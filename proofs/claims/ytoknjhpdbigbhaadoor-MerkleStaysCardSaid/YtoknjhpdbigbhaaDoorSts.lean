/-
  Strays, of any two lists.
-/
import Derived.Test.YtoknjhpdbigbhaaDoorStr
namespace Go.Proofs.YtoknjhpdbigbhaaDoor
open Go.RowKit
set_option linter.unusedVariables false
set_option maxRecDepth 100000 in
set_option maxHeartbeats 4000000 in
theorem str_eq (m : Nat) (hn : m ≤ 4398046511104) (a b : Ds) (whole : Bool) (aa : Option Addr) (ac : Nat) (ba : Option Addr) (bc : Nat) (wa : Option Addr) (wl wcp : Nat) (w : World) (ha : DR w aa m a) (hac : m ≤ ac) (ham : ac ≤ 9223372036854775807) (hb : DR w ba m b) (hbc : m ≤ bc) (hbm : bc ≤ 9223372036854775807) (hr : rootS a = rootS b) (hne : a ≠ b) :
    Calls Tryd.prog 23 #[.slice aa m ac, .slice ba m bc, .bool whole, .slice wa wl wcp] w (RetTrue w) := by
  have HD := Lib.hid (fun W (hW : Below w.heap.size w W) => differ_c m hn m (by omega) a b aa ac ba bc W (ha.below hW) hac ham (hb.below hW) hbc hbm hr hne)
  clear ha hb hr hne hn ham hbm
  go_enter Tryd.func23, Tryd.ntmps23
  go_wp2_with fail
  refine (HD.out _ (Below.refl _ _)).mono ?_
  rintro e w1 ⟨rfl, hb1⟩
  have HE := Lib.hid hb1
  clear hb1
  go_wp2
  go_ret
  exact ⟨rfl, HE.out⟩
theorem strays_c : ∀ (n : Nat), n ≤ 4398046511104 → SIH (n + 1) := by
  intro n
  induction n using Nat.strongRecOn with
  | ind n ih =>
    intro hn B q hq m a b way whole aa ac ba bc wa wl wcp w h1 hm ha hac ham hb hbc hbm hw hwc hwm hab hB htop hne
    by_cases hqn : q < n
    · exact ih q hqn (by omega) B q (by omega) m a b way whole aa ac ba bc wa wl wcp w h1 hm ha hac ham hb hbc hbm hw hwc hwm hab hB htop hne
    obtain rfl : q = n := by omega
    by_cases hmq : m = q
    · subst hmq
      have hr : rootS a = rootS b := by
        unfold bothS at htop
        cases whole with
        | true =>
          rw [Mk.both_whole] at htop
          split at htop
          · simp only [Option.some.injEq, Prod.mk.injEq] at htop; exact htop.2
          · cases htop
        | false =>
          rw [Mk.both_part] at htop
          split at htop
          · simp only [Option.some.injEq, Prod.mk.injEq] at htop; exact htop.1.symm.trans htop.2
          · cases htop
      exact str_eq m hn a b whole aa ac ba bc wa wl wcp w ha hac ham hb hbc hbm hr (by rw [List.take_of_length_le (by rw [hb.1]; omega)] at hne; exact hne)
    · have ih' : SIH q := fun B p hp => ih p hp (by omega) B p (by omega)
      cases wl with
      | zero =>
        rw [hw.zero, show bothS (rootS a) m q whole [] = none from Mk.both_nil _ _ _ _ _ h1 hm (.inl hmq)] at htop
        cases htop
      | succ L =>
        by_cases hik : m ≤ Mk.half q
        · exact str_l B q _ m L ih' a b way whole aa ac ba bc wa wcp w (by omega) hn rfl h1 (by omega) hik ha hac ham hb hbc hbm hw hwc hwm hab hB htop hne
        · exact str_r B q _ m L ih' a b way whole aa ac ba bc wa wcp w (by omega) hn rfl h1 (by omega) hik ha hac ham hb hbc hbm hw hwc hwm hab hB htop hne
end Go.Proofs.YtoknjhpdbigbhaaDoor
