/-
  The walks over the laws of names: which texts are names of repositories, tags, media types.
-/
import Derived.Test.YtjoomfikfbbnmaaDoorNme
namespace Go.Proofs.YtjoomfikfbbnmaaDoor
set_option linter.unusedVariables false
open Go.RowKit Go.Proofs.Nm
set_option maxRecDepth 100000 in
theorem repos7_l (l : List UInt8) (w : World) (hl : l.length ≤ 140737488351232) :
    Calls Tryd.prog 3 #[.string (T l)] w fun e w' => e = .returned (.bool true) ∧ Below w.heap.size w w' := by
  have H1 := fun W => repo_c l W hl
  have H2 := fun W => rrepo_c l W hl
  obtain ⟨b, hb⟩ : ∃ b, b = (goR 0 l && decide (l.length ≤ 128)) := ⟨_, rfl⟩
  rw [← hb] at H1 H2
  have HA := Lib.hid H1
  have HB := Lib.hid H2
  clear H1 H2 hb
  go_enter Tryd.func3, Tryd.ntmps3
  go_wp2_with (first | (go_at_call 10; (refine (awake7_c _).mono ?_); rintro e w1 ⟨rfl, h⟩; have HB1 := Lib.hid h; clear h) | (go_at_call 11; (refine (HA.out _).mono ?_); rintro e w2 ⟨rfl, h⟩; have HB2 := Lib.hid h; clear h) | (go_at_call 12; (refine (HB.out _).mono ?_); rintro e w3 ⟨rfl, rfl⟩))
  all_goals (go_ret; exact ⟨ret_bool (by simp), HB1.out.trans (HB2.out.mono HB1.out.size)⟩)
theorem repos7_c (s : ByteArray) (w : World) (hs : s.size ≤ 140737488351232) :
    Calls Tryd.prog 3 #[.string s] w fun e w' => e = .returned (.bool true) ∧ Below w.heap.size w w' :=
  repos7_l s.data.toList w hs
set_option maxRecDepth 100000 in
theorem tags7_l (l : List UInt8) (w : World) (hl : l.length ≤ 140737488351232) :
    Calls Tryd.prog 4 #[.string (T l)] w fun e w' => e = .returned (.bool true) ∧ Below w.heap.size w w' := by
  have H1 := fun W => tag_c l W hl
  have H2 := fun W => rtag_c l W hl
  obtain ⟨b, hb⟩ : ∃ b, b = (isTagL l && decide (l.length ≤ 128)) := ⟨_, rfl⟩
  rw [← hb] at H1 H2
  have HA := Lib.hid H1
  have HB := Lib.hid H2
  clear H1 H2 hb
  go_enter Tryd.func4, Tryd.ntmps4
  go_wp2_with (first | (go_at_call 10; (refine (awake7_c _).mono ?_); rintro e w1 ⟨rfl, h⟩; have HB1 := Lib.hid h; clear h) | (go_at_call 13; (refine (HA.out _).mono ?_); rintro e w2 ⟨rfl, h⟩; have HB2 := Lib.hid h; clear h) | (go_at_call 14; (refine (HB.out _).mono ?_); rintro e w3 ⟨rfl, rfl⟩))
  all_goals (go_ret; exact ⟨ret_bool (by simp), HB1.out.trans (HB2.out.mono HB1.out.size)⟩)
theorem tags7_c (s : ByteArray) (w : World) (hs : s.size ≤ 140737488351232) :
    Calls Tryd.prog 4 #[.string s] w fun e w' => e = .returned (.bool true) ∧ Below w.heap.size w w' :=
  tags7_l s.data.toList w hs
set_option maxRecDepth 100000 in
theorem medias7_l (l : List UInt8) (w : World) (hl : l.length ≤ 140737488351232) :
    Calls Tryd.prog 5 #[.string (T l)] w fun e w' => e = .returned (.bool true) ∧ Below w.heap.size w w' := by
  have H1 := fun W => media_c l W hl
  have H2 := fun W => rmedia_c l W hl
  obtain ⟨b, hb⟩ : ∃ b, b = (mediaL l && decide (l.length ≤ 127)) := ⟨_, rfl⟩
  rw [← hb] at H1 H2
  have HA := Lib.hid H1
  have HB := Lib.hid H2
  clear H1 H2 hb
  go_enter Tryd.func5, Tryd.ntmps5
  go_wp2_with (first | (go_at_call 10; (refine (awake7_c _).mono ?_); rintro e w1 ⟨rfl, h⟩; have HB1 := Lib.hid h; clear h) | (go_at_call 15; (refine (HA.out _).mono ?_); rintro e w2 ⟨rfl, h⟩; have HB2 := Lib.hid h; clear h) | (go_at_call 16; (refine (HB.out _).mono ?_); rintro e w3 ⟨rfl, rfl⟩))
  all_goals (go_ret; exact ⟨ret_bool (by simp), HB1.out.trans (HB2.out.mono HB1.out.size)⟩)
theorem medias7_c (s : ByteArray) (w : World) (hs : s.size ≤ 140737488351232) :
    Calls Tryd.prog 5 #[.string s] w fun e w' => e = .returned (.bool true) ∧ Below w.heap.size w w' :=
  medias7_l s.data.toList w hs
end Go.Proofs.YtjoomfikfbbnmaaDoor
