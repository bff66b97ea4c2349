/-
  What a nil disk's calls come to, by their runs; the statement's walk.
-/
import Derived.Test.YtjpcbmfnjifgfaaDcd
namespace Go.Proofs.Ytjpcbmfnjifgfaa
open Go.Proofs.Ytjpcbmfnjifgfaa.Ev
open Go.RowKit
set_option linter.unusedVariables false
noncomputable def dnil_list : List (Nat × FnI) := [(8, fnI Try.f8), (28, fnI Try.f28), (32, fnI Try.f32), (22, fnI Try.f22), (13, fnI Try.f13), (20, fnI Try.f20), (25, fnI Try.f25), (31, fnI Try.f31), (33, fnI Try.f33), (24, fnI Try.f24), (34, fnI Try.f34), (26, fnI Try.f26), (30, fnI Try.f30), (27, fnI Try.f27), (35, fnI Try.f35), (63, fnI Try.f63), (54, fnI Try.f54), (61, fnI Try.f61), (56, fnI Try.f56), (62, fnI Try.f62), (14, fnI Try.f14), (18, fnI Try.f18), (55, fnI Try.f55), (57, fnI Try.f57), (66, fnI Try.f66), (64, fnI Try.f64), (65, fnI Try.f65), (80, fnI Try.f80), (77, fnI Try.f77), (82, fnI Try.f82), (81, fnI Try.f81), (83, fnI Try.f83), (107, fnI Try.f107), (108, fnI Try.f108), (98, fnI Try.f98), (99, fnI Try.f99), (100, fnI Try.f100), (101, fnI Try.f101), (102, fnI Try.f102), (103, fnI Try.f103), (104, fnI Try.f104), (105, fnI Try.f105), (106, fnI Try.f106), (109, fnI Try.f109), (110, fnI Try.f110), (111, fnI Try.f111), (112, fnI Try.f112), (113, fnI Try.f113), (114, fnI Try.f114), (115, fnI Try.f115)]
theorem dnil_is : ∀ f i, lk dnil_list f = some i → FnIs Try.prog f i := lk_cons (fnI_is Try.func8 (by kernel_rfl) (by kernel_rfl)) (lk_cons (fnI_is Try.func28 (by kernel_rfl) (by kernel_rfl)) (lk_cons (fnI_is Try.func32 (by kernel_rfl) (by kernel_rfl)) (lk_cons (fnI_is Try.func22 (by kernel_rfl) (by kernel_rfl)) (lk_cons (fnI_is Try.func13 (by kernel_rfl) (by kernel_rfl)) (lk_cons (fnI_is Try.func20 (by kernel_rfl) (by kernel_rfl)) (lk_cons (fnI_is Try.func25 (by kernel_rfl) (by kernel_rfl)) (lk_cons (fnI_is Try.func31 (by kernel_rfl) (by kernel_rfl)) (lk_cons (fnI_is Try.func33 (by kernel_rfl) (by kernel_rfl)) (lk_cons (fnI_is Try.func24 (by kernel_rfl) (by kernel_rfl)) (lk_cons (fnI_is Try.func34 (by kernel_rfl) (by kernel_rfl)) (lk_cons (fnI_is Try.func26 (by kernel_rfl) (by kernel_rfl)) (lk_cons (fnI_is Try.func30 (by kernel_rfl) (by kernel_rfl)) (lk_cons (fnI_is Try.func27 (by kernel_rfl) (by kernel_rfl)) (lk_cons (fnI_is Try.func35 (by kernel_rfl) (by kernel_rfl)) (lk_cons (fnI_is Try.func63 (by kernel_rfl) (by kernel_rfl)) (lk_cons (fnI_is Try.func54 (by kernel_rfl) (by kernel_rfl)) (lk_cons (fnI_is Try.func61 (by kernel_rfl) (by kernel_rfl)) (lk_cons (fnI_is Try.func56 (by kernel_rfl) (by kernel_rfl)) (lk_cons (fnI_is Try.func62 (by kernel_rfl) (by kernel_rfl)) (lk_cons (fnI_is Try.func14 (by kernel_rfl) (by kernel_rfl)) (lk_cons (fnI_is Try.func18 (by kernel_rfl) (by kernel_rfl)) (lk_cons (fnI_is Try.func55 (by kernel_rfl) (by kernel_rfl)) (lk_cons (fnI_is Try.func57 (by kernel_rfl) (by kernel_rfl)) (lk_cons (fnI_is Try.func66 (by kernel_rfl) (by kernel_rfl)) (lk_cons (fnI_is Try.func64 (by kernel_rfl) (by kernel_rfl)) (lk_cons (fnI_is Try.func65 (by kernel_rfl) (by kernel_rfl)) (lk_cons (fnI_is Try.func80 (by kernel_rfl) (by kernel_rfl)) (lk_cons (fnI_is Try.func77 (by kernel_rfl) (by kernel_rfl)) (lk_cons (fnI_is Try.func82 (by kernel_rfl) (by kernel_rfl)) (lk_cons (fnI_is Try.func81 (by kernel_rfl) (by kernel_rfl)) (lk_cons (fnI_is Try.func83 (by kernel_rfl) (by kernel_rfl)) (lk_cons (fnI_is Try.func107 (by kernel_rfl) (by kernel_rfl)) (lk_cons (fnI_is Try.func108 (by kernel_rfl) (by kernel_rfl)) (lk_cons (fnI_is Try.func98 (by kernel_rfl) (by kernel_rfl)) (lk_cons (fnI_is Try.func99 (by kernel_rfl) (by kernel_rfl)) (lk_cons (fnI_is Try.func100 (by kernel_rfl) (by kernel_rfl)) (lk_cons (fnI_is Try.func101 (by kernel_rfl) (by kernel_rfl)) (lk_cons (fnI_is Try.func102 (by kernel_rfl) (by kernel_rfl)) (lk_cons (fnI_is Try.func103 (by kernel_rfl) (by kernel_rfl)) (lk_cons (fnI_is Try.func104 (by kernel_rfl) (by kernel_rfl)) (lk_cons (fnI_is Try.func105 (by kernel_rfl) (by kernel_rfl)) (lk_cons (fnI_is Try.func106 (by kernel_rfl) (by kernel_rfl)) (lk_cons (fnI_is Try.func109 (by kernel_rfl) (by kernel_rfl)) (lk_cons (fnI_is Try.func110 (by kernel_rfl) (by kernel_rfl)) (lk_cons (fnI_is Try.func111 (by kernel_rfl) (by kernel_rfl)) (lk_cons (fnI_is Try.func112 (by kernel_rfl) (by kernel_rfl)) (lk_cons (fnI_is Try.func113 (by kernel_rfl) (by kernel_rfl)) (lk_cons (fnI_is Try.func114 (by kernel_rfl) (by kernel_rfl)) (lk_cons (fnI_is Try.func115 (by kernel_rfl) (by kernel_rfl)) (lk_nil))))))))))))))))))))))))))))))))))))))))))))))))))
noncomputable def dnil_book : Book Try.prog := bookClone dnil_list dnil_is 77 fun s w hs => stringslite_Clone s w hs
theorem dnone (f : FuncId) (args : List AV) (vs : List Value) (x : Value) (h : retOf (callE Try.prog dnil_book 1000 60 f args noMem) = some (.lit x)) (ha : AV.are (fun _ => none) args vs) (W : World) :
    Calls Try.prog f vs.toArray W fun e w' => e = .returned x ∧ Below W.heap.size W w' := by
  refine (Stt.run dnil_book (fun _ => rfl) (by kernel_rfl) h (Stt.start W) ha).mono ?_
  rintro e w' ⟨V', v, _, hs, rfl, hv, -⟩
  exact ⟨by rw [show v = _ from hv], hs.below⟩
set_option maxRecDepth 100000 in
theorem dn0 (nm : ByteArray) (n : Int): retOf (callE Try.prog dnil_book 1000 60 28 [.lit (.pointer none), .lit (.string nm), .lit (.int .i64 n), .lit (.int .i64 n)] noMem) = some (.lit (.tuple #[.slice none 0 0, .int .i64 2])) := by kernel_rfl
set_option maxRecDepth 100000 in
theorem dn1 (nm : ByteArray): retOf (callE Try.prog dnil_book 1000 60 32 [.lit (.pointer none), .lit (.string nm)] noMem) = some (.lit (.tuple #[.int .i64 0, .int .i64 2])) := by kernel_rfl
set_option maxRecDepth 100000 in
theorem dn2 (nm : ByteArray): retOf (callE Try.prog dnil_book 1000 60 22 [.lit (.pointer none), .lit (.string nm)] noMem) = some (.lit (.tuple #[.slice none 0 0, .int .i64 2])) := by kernel_rfl
set_option maxRecDepth 100000 in
theorem dn3 (nm : ByteArray): retOf (callE Try.prog dnil_book 1000 60 20 [.lit (.pointer none), .lit (.string nm)] noMem) = some (.lit (.int .i64 2)) := by kernel_rfl
set_option maxRecDepth 100000 in
theorem dn4 (nm : ByteArray) (a : Option Addr) (l c : Nat): retOf (callE Try.prog dnil_book 1000 60 25 [.lit (.pointer none), .lit (.string nm), .lit (.slice a l c)] noMem) = some (.lit (.int .i64 2)) := by kernel_rfl
set_option maxRecDepth 100000 in
theorem dn5 (nm : ByteArray): retOf (callE Try.prog dnil_book 1000 60 31 [.lit (.pointer none), .lit (.string nm)] noMem) = some (.lit (.int .i64 2)) := by kernel_rfl
set_option maxRecDepth 100000 in
theorem dn6 (nm : ByteArray): retOf (callE Try.prog dnil_book 1000 60 33 [.lit (.pointer none), .lit (.string nm), .lit (.string nm)] noMem) = some (.lit (.int .i64 2)) := by kernel_rfl
set_option maxRecDepth 100000 in
theorem dn7 : retOf (callE Try.prog dnil_book 1000 60 24 [.lit (.pointer none)] noMem) = some (.lit (.int .i64 2)) := by kernel_rfl
set_option maxRecDepth 100000 in
theorem dn8 (n : Int): retOf (callE Try.prog dnil_book 1000 60 34 [.lit (.pointer none), .lit (.int .i64 n)] noMem) = some (.lit (.int .i64 2)) := by kernel_rfl
set_option maxRecDepth 100000 in
theorem dn9 (n : Int): retOf (callE Try.prog dnil_book 1000 60 26 [.lit (.pointer none), .lit (.int .i64 n), .lit (.int .i64 n)] noMem) = some (.lit (.int .i64 2)) := by kernel_rfl
set_option maxRecDepth 100000 in
theorem dn10 : retOf (callE Try.prog dnil_book 1000 60 30 [.lit (.pointer none)] noMem) = some (.lit (.int .i64 0)) := by kernel_rfl
set_option maxRecDepth 100000 in
theorem dn11 : retOf (callE Try.prog dnil_book 1000 60 27 [.lit (.pointer none)] noMem) = some (.lit (.int .i64 0)) := by kernel_rfl
set_option maxRecDepth 100000 in
theorem dn12 : retOf (callE Try.prog dnil_book 1000 60 35 [.lit (.pointer none)] noMem) = some (.lit (.bool false)) := by kernel_rfl
set_option maxRecDepth 100000 in
set_option maxHeartbeats 8000000 in
theorem dnil_c (nm : ByteArray) (a : Option Addr) (l c : Nat) (n : Int) (w : World) :
    Calls Try.prog 8 #[.string nm, .slice a l c, .int .i64 n] w fun e w' => e = .returned (.bool true) ∧ Below w.heap.size w w' := by
  have H0 := Lib.hid (dnone 28 _ [.pointer none, .string nm, .int .i64 n, .int .i64 n] (.tuple #[.slice none 0 0, .int .i64 2]) (dn0 nm n) (are_lits [.pointer none, .string nm, .int .i64 n, .int .i64 n]))
  have H1 := Lib.hid (dnone 32 _ [.pointer none, .string nm] (.tuple #[.int .i64 0, .int .i64 2]) (dn1 nm) (are_lits [.pointer none, .string nm]))
  have H2 := Lib.hid (dnone 22 _ [.pointer none, .string nm] (.tuple #[.slice none 0 0, .int .i64 2]) (dn2 nm) (are_lits [.pointer none, .string nm]))
  have H3 := Lib.hid (dnone 20 _ [.pointer none, .string nm] (.int .i64 2) (dn3 nm) (are_lits [.pointer none, .string nm]))
  have H4 := Lib.hid (dnone 25 _ [.pointer none, .string nm, .slice a l c] (.int .i64 2) (dn4 nm a l c) (are_lits [.pointer none, .string nm, .slice a l c]))
  have H5 := Lib.hid (dnone 31 _ [.pointer none, .string nm] (.int .i64 2) (dn5 nm) (are_lits [.pointer none, .string nm]))
  have H6 := Lib.hid (dnone 33 _ [.pointer none, .string nm, .string nm] (.int .i64 2) (dn6 nm) (are_lits [.pointer none, .string nm, .string nm]))
  have H7 := Lib.hid (dnone 24 _ [.pointer none] (.int .i64 2) (dn7 ) (are_lits [.pointer none]))
  have H8 := Lib.hid (dnone 34 _ [.pointer none, .int .i64 n] (.int .i64 2) (dn8 n) (are_lits [.pointer none, .int .i64 n]))
  have H9 := Lib.hid (dnone 26 _ [.pointer none, .int .i64 n, .int .i64 n] (.int .i64 2) (dn9 n) (are_lits [.pointer none, .int .i64 n, .int .i64 n]))
  have H10 := Lib.hid (dnone 30 _ [.pointer none] (.int .i64 0) (dn10 ) (are_lits [.pointer none]))
  have H11 := Lib.hid (dnone 27 _ [.pointer none] (.int .i64 0) (dn11 ) (are_lits [.pointer none]))
  have H12 := Lib.hid (dnone 35 _ [.pointer none] (.bool false) (dn12 ) (are_lits [.pointer none]))
  go_enter Try.func8, Try.ntmps8
  go_wp2_with fail
  refine (H0.out _).mono ?_
  rintro e0 w0 ⟨rfl, hb0⟩
  have HB0 := Lib.hid (show Below w.heap.size w w0 from hb0)
  clear hb0
  go_wp2_with fail
  refine (H1.out _).mono ?_
  rintro e1 w1 ⟨rfl, hb1⟩
  have HB1 := Lib.hid (HB0.out.trans (hb1.mono HB0.out.size))
  clear hb1 HB0
  go_wp2_with fail
  refine (H2.out _).mono ?_
  rintro e2 w2 ⟨rfl, hb2⟩
  have HB2 := Lib.hid (HB1.out.trans (hb2.mono HB1.out.size))
  clear hb2 HB1
  go_wp2_with fail
  refine (awake9_c _).mono ?_
  rintro e3 w3 ⟨rfl, hb3⟩
  have HB3 := Lib.hid (HB2.out.trans (hb3.mono HB2.out.size))
  clear hb3 HB2
  go_wp2_with fail
  refine (H3.out _).mono ?_
  rintro e4 w4 ⟨rfl, hb4⟩
  have HB4 := Lib.hid (HB3.out.trans (hb4.mono HB3.out.size))
  clear hb4 HB3
  go_wp2_with fail
  refine (H4.out _).mono ?_
  rintro e5 w5 ⟨rfl, hb5⟩
  have HB5 := Lib.hid (HB4.out.trans (hb5.mono HB4.out.size))
  clear hb5 HB4
  go_wp2_with fail
  refine (H5.out _).mono ?_
  rintro e6 w6 ⟨rfl, hb6⟩
  have HB6 := Lib.hid (HB5.out.trans (hb6.mono HB5.out.size))
  clear hb6 HB5
  go_wp2_with fail
  refine (H6.out _).mono ?_
  rintro e7 w7 ⟨rfl, hb7⟩
  have HB7 := Lib.hid (HB6.out.trans (hb7.mono HB6.out.size))
  clear hb7 HB6
  go_wp2_with fail
  refine (H7.out _).mono ?_
  rintro e8 w8 ⟨rfl, hb8⟩
  have HB8 := Lib.hid (HB7.out.trans (hb8.mono HB7.out.size))
  clear hb8 HB7
  go_wp2_with fail
  refine (H8.out _).mono ?_
  rintro e9 w9 ⟨rfl, hb9⟩
  have HB9 := Lib.hid (HB8.out.trans (hb9.mono HB8.out.size))
  clear hb9 HB8
  go_wp2_with fail
  refine (H9.out _).mono ?_
  rintro e10 w10 ⟨rfl, hb10⟩
  have HB10 := Lib.hid (HB9.out.trans (hb10.mono HB9.out.size))
  clear hb10 HB9
  go_wp2_with fail
  refine (H10.out _).mono ?_
  rintro e11 w11 ⟨rfl, hb11⟩
  have HB11 := Lib.hid (HB10.out.trans (hb11.mono HB10.out.size))
  clear hb11 HB10
  go_wp2_with fail
  refine (H11.out _).mono ?_
  rintro e12 w12 ⟨rfl, hb12⟩
  have HB12 := Lib.hid (HB11.out.trans (hb12.mono HB11.out.size))
  clear hb12 HB11
  go_wp2_with fail
  refine (H12.out _).mono ?_
  rintro e13 w13 ⟨rfl, hb13⟩
  have HB13 := Lib.hid (HB12.out.trans (hb13.mono HB12.out.size))
  clear hb13 HB12
  go_wp2_with fail
  go_ret
  exact ⟨rfl, HB13.out⟩
end Go.Proofs.Ytjpcbmfnjifgfaa
