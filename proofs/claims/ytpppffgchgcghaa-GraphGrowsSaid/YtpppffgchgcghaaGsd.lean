/-
  GraphNil, walked.
-/
import Derived.Test.YtpppffgchgcghaaGsc
namespace Go.Proofs.Ytpppffgchgcghaa
open Go.RowKit Go.Maps
set_option linter.unusedVariables false
theorem wpList_dlayG {w : World} {ops : Array Oper} {rest : List Oper} {o : Oper} {a : Act} {Q : Exit → Act → World → Prop} (x : Operand) (ho : o.op = .buildSlice 38 1 #[(0, x)]) (hw : Region.wanted o (yielded ops a.tmps) = true) (d : List Nat) (hd : D32 d) (hx : a.eval x = .agg (cellsOf d).toArray)
    (h : wpList Try.prog ops Q rest (a.put o.dst (.slice (some ⟨w.heap.size, 0, none⟩) 1 1)) (w.alloc (.cells (cellsOf d).toArray 42))) : wpList Try.prog ops Q (o :: rest) a w := by
  rw [wpList, if_pos hw]
  refine .inl ?_
  exact wp_dlayU dtA x ho d hd hx h
set_option maxRecDepth 100000 in
set_option maxHeartbeats 8000000 in
theorem gnil_c (n : Nat) (hn : n < 256) (w : World) : Calls Try.prog 7 #[.int .u8 (n : Int)] w fun e w' => e = .returned (.bool true) ∧ Below w.heap.size w w' := by
  obtain ⟨nn, hnn⟩ : ∃ nn : List Nat, nn = nd n := ⟨_, rfl⟩
  have HND := Lib.hid (show ∀ W, Calls Try.prog 14 #[.int .u8 (n : Int)] W (fun e w' => e = .returned (.agg (cellsOf nn).toArray) ∧ Below W.heap.size W w') from fun W => by rw [hnn]; exact node_c n hn W)
  have HSD := Lib.hid (show D32 nn from by rw [hnn]; exact d32_nd n)
  have HIX := Lib.hid (infoG HSD.out)
  clear hnn hn
  go_enter Try.func7, Try.ntmps7
  go_wp2_with fail
  refine (HND.out _).mono ?_
  rintro e1 w1 ⟨rfl, hb1⟩
  have HW1 := Lib.hid (show Below w.heap.size w w1 from hb1)
  clear hb1
  go_wp2_with (first | (refine wpList_dlayG _ (by rfl) (by rfl) nn HSD.out (by rfl) ?_; refine gen_world (F := fun W => Below w1.heap.size w1 W) ((Below.refl _ _).alloc (Nat.le_refl _) _) ?_; intro wL hL; have HLL := Lib.hid hL; clear hL) | fail)
  have HW2 := Lib.hid (show Below w.heap.size w wL from HW1.out.trans ((HLL.out).mono HW1.out.size))
  clear HW1
  refine (mark_nil _ _).mono ?_
  rintro e3 w3 ⟨rfl, rfl⟩
  go_wp2_with fail
  refine (HND.out _).mono ?_
  rintro e3 w3 ⟨rfl, hb3⟩
  have HW3 := Lib.hid (show Below w.heap.size w w3 from HW2.out.trans ((hb3).mono HW2.out.size))
  clear HW2
  clear hb3
  go_wp2_with fail
  refine (edges_nil nn HSD.out _).mono ?_
  rintro e90 w90 ⟨v, rfl, hb90⟩
  have HW4 := Lib.hid (show Below w.heap.size w w90 from HW3.out.trans ((hb90).mono HW3.out.size))
  clear HW3
  clear hb90
  go_wp2_with fail
  refine (awake18_c _).mono ?_
  rintro e5 w5 ⟨rfl, hb5⟩
  have HW5 := Lib.hid (show Below w.heap.size w w5 from HW4.out.trans ((hb5).mono HW4.out.size))
  clear HW4
  clear hb5
  go_wp2_with fail
  refine (HND.out _).mono ?_
  rintro e6 w6 ⟨rfl, hb6⟩
  have HW6 := Lib.hid (show Below w.heap.size w w6 from HW5.out.trans ((hb6).mono HW5.out.size))
  clear HW5
  clear hb6
  go_wp2_with fail
  refine (put_nil nn _ _).mono ?_
  rintro e7 w7 ⟨rfl, hb7⟩
  have HW7 := Lib.hid (show Below w.heap.size w w7 from HW6.out.trans ((hb7).mono HW6.out.size))
  clear HW6
  clear hb7
  go_wp2_with fail
  refine (HND.out _).mono ?_
  rintro e8 w8 ⟨rfl, hb8⟩
  have HW8 := Lib.hid (show Below w.heap.size w w8 from HW7.out.trans ((hb8).mono HW7.out.size))
  clear HW7
  clear hb8
  go_wp2_with fail
  refine (drop_nil nn _).mono ?_
  rintro e9 w9 ⟨rfl, hb9⟩
  have HW9 := Lib.hid (show Below w.heap.size w w9 from HW8.out.trans ((hb9).mono HW8.out.size))
  clear HW8
  clear hb9
  go_wp2_with fail
  refine (nodes_nil _).mono ?_
  rintro e10 w10 ⟨rfl, rfl⟩
  go_wp2_with fail
  refine (HND.out _).mono ?_
  rintro e10 w10 ⟨rfl, hb10⟩
  have HW10 := Lib.hid (show Below w.heap.size w w10 from HW9.out.trans ((hb10).mono HW9.out.size))
  clear HW9
  clear hb10
  go_wp2_with fail
  refine (refs_nil nn _).mono ?_
  rintro e11 w11 ⟨rfl, hb11⟩
  have HW11 := Lib.hid (show Below w.heap.size w w11 from HW10.out.trans ((hb11).mono HW10.out.size))
  clear HW10
  clear hb11
  go_wp2_with fail
  refine (HND.out _).mono ?_
  rintro e12 w12 ⟨rfl, hb12⟩
  have HW12 := Lib.hid (show Below w.heap.size w w12 from HW11.out.trans ((hb12).mono HW11.out.size))
  clear HW11
  clear hb12
  go_wp2_with (first | (refine wpList_dlayG _ (by rfl) (by rfl) nn HSD.out (by rfl) ?_; refine gen_world (F := fun W => Below w12.heap.size w12 W) ((Below.refl _ _).alloc (Nat.le_refl _) _) ?_; intro wL hL; have HLL := Lib.hid hL; clear hL) | fail)
  have HW13 := Lib.hid (show Below w.heap.size w wL from HW12.out.trans ((HLL.out).mono HW12.out.size))
  clear HW12
  refine (reach_nil _ _).mono ?_
  rintro e14 w14 ⟨rfl, rfl⟩
  go_wp2_with fail
  refine (HND.out _).mono ?_
  rintro e14 w14 ⟨rfl, hb14⟩
  have HW14 := Lib.hid (show Below w.heap.size w w14 from HW13.out.trans ((hb14).mono HW13.out.size))
  clear HW13
  clear hb14
  go_wp2_with fail
  refine (gray_nil nn _).mono ?_
  rintro e15 w15 ⟨rfl, hb15⟩
  have HW15 := Lib.hid (show Below w.heap.size w w15 from HW14.out.trans ((hb15).mono HW14.out.size))
  clear HW14
  clear hb15
  go_wp2_with fail
  refine (step_nil _).mono ?_
  rintro e16 w16 ⟨rfl, rfl⟩
  go_wp2_with fail
  refine (HND.out _).mono ?_
  rintro e16 w16 ⟨rfl, hb16⟩
  have HW16 := Lib.hid (show Below w.heap.size w w16 from HW15.out.trans ((hb16).mono HW15.out.size))
  clear HW15
  clear hb16
  go_wp2_with fail
  refine (marked_nil nn _).mono ?_
  rintro e17 w17 ⟨rfl, hb17⟩
  have HW17 := Lib.hid (show Below w.heap.size w w17 from HW16.out.trans ((hb17).mono HW16.out.size))
  clear HW16
  clear hb17
  go_wp2_with fail
  refine (left_nil _).mono ?_
  rintro e18 w18 ⟨rfl, rfl⟩
  go_wp2_with fail
  go_ret
  exact ⟨rfl, HW17.out⟩
end Go.Proofs.Ytpppffgchgcghaa
