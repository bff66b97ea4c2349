/-
  What JournalNil's calls come to, by their runs.
-/
import Derived.Test.YtjpcbmfnjifgfaaJni
namespace Go.Proofs.Ytjpcbmfnjifgfaa
open Go.Proofs.Ytjpcbmfnjifgfaa.Ev
open Go.RowKit
set_option linter.unusedVariables false
noncomputable def jnil_list : List (Nat × FnI) := [(12, fnI Try.f12), (40, fnI Try.f40), (14, fnI Try.f14), (39, fnI Try.f39), (42, fnI Try.f42), (43, fnI Try.f43), (48, fnI Try.f48), (44, fnI Try.f44), (18, fnI Try.f18), (56, fnI Try.f56), (70, fnI Try.f70), (71, fnI Try.f71), (47, fnI Try.f47), (25, fnI Try.f25), (24, fnI Try.f24), (72, fnI Try.f72), (77, fnI Try.f77), (28, fnI Try.f28), (88, fnI Try.f88), (89, fnI Try.f89), (37, fnI Try.f37), (73, fnI Try.f73), (74, fnI Try.f74), (75, fnI Try.f75), (63, fnI Try.f63), (55, fnI Try.f55), (54, fnI Try.f54), (90, fnI Try.f90), (92, fnI Try.f92), (93, fnI Try.f93), (95, fnI Try.f95), (96, fnI Try.f96), (20, fnI Try.f20), (67, fnI Try.f67), (97, fnI Try.f97), (91, fnI Try.f91), (94, fnI Try.f94), (33, fnI Try.f33), (57, fnI Try.f57), (84, fnI Try.f84), (85, fnI Try.f85), (31, fnI Try.f31), (66, fnI Try.f66)]
theorem jnil_is : ∀ f i, lk jnil_list f = some i → FnIs Try.prog f i := lk_cons (fnI_is Try.func12 (by kernel_rfl) (by kernel_rfl)) (lk_cons (fnI_is Try.func40 (by kernel_rfl) (by kernel_rfl)) (lk_cons (fnI_is Try.func14 (by kernel_rfl) (by kernel_rfl)) (lk_cons (fnI_is Try.func39 (by kernel_rfl) (by kernel_rfl)) (lk_cons (fnI_is Try.func42 (by kernel_rfl) (by kernel_rfl)) (lk_cons (fnI_is Try.func43 (by kernel_rfl) (by kernel_rfl)) (lk_cons (fnI_is Try.func48 (by kernel_rfl) (by kernel_rfl)) (lk_cons (fnI_is Try.func44 (by kernel_rfl) (by kernel_rfl)) (lk_cons (fnI_is Try.func18 (by kernel_rfl) (by kernel_rfl)) (lk_cons (fnI_is Try.func56 (by kernel_rfl) (by kernel_rfl)) (lk_cons (fnI_is Try.func70 (by kernel_rfl) (by kernel_rfl)) (lk_cons (fnI_is Try.func71 (by kernel_rfl) (by kernel_rfl)) (lk_cons (fnI_is Try.func47 (by kernel_rfl) (by kernel_rfl)) (lk_cons (fnI_is Try.func25 (by kernel_rfl) (by kernel_rfl)) (lk_cons (fnI_is Try.func24 (by kernel_rfl) (by kernel_rfl)) (lk_cons (fnI_is Try.func72 (by kernel_rfl) (by kernel_rfl)) (lk_cons (fnI_is Try.func77 (by kernel_rfl) (by kernel_rfl)) (lk_cons (fnI_is Try.func28 (by kernel_rfl) (by kernel_rfl)) (lk_cons (fnI_is Try.func88 (by kernel_rfl) (by kernel_rfl)) (lk_cons (fnI_is Try.func89 (by kernel_rfl) (by kernel_rfl)) (lk_cons (fnI_is Try.func37 (by kernel_rfl) (by kernel_rfl)) (lk_cons (fnI_is Try.func73 (by kernel_rfl) (by kernel_rfl)) (lk_cons (fnI_is Try.func74 (by kernel_rfl) (by kernel_rfl)) (lk_cons (fnI_is Try.func75 (by kernel_rfl) (by kernel_rfl)) (lk_cons (fnI_is Try.func63 (by kernel_rfl) (by kernel_rfl)) (lk_cons (fnI_is Try.func55 (by kernel_rfl) (by kernel_rfl)) (lk_cons (fnI_is Try.func54 (by kernel_rfl) (by kernel_rfl)) (lk_cons (fnI_is Try.func90 (by kernel_rfl) (by kernel_rfl)) (lk_cons (fnI_is Try.func92 (by kernel_rfl) (by kernel_rfl)) (lk_cons (fnI_is Try.func93 (by kernel_rfl) (by kernel_rfl)) (lk_cons (fnI_is Try.func95 (by kernel_rfl) (by kernel_rfl)) (lk_cons (fnI_is Try.func96 (by kernel_rfl) (by kernel_rfl)) (lk_cons (fnI_is Try.func20 (by kernel_rfl) (by kernel_rfl)) (lk_cons (fnI_is Try.func67 (by kernel_rfl) (by kernel_rfl)) (lk_cons (fnI_is Try.func97 (by kernel_rfl) (by kernel_rfl)) (lk_cons (fnI_is Try.func91 (by kernel_rfl) (by kernel_rfl)) (lk_cons (fnI_is Try.func94 (by kernel_rfl) (by kernel_rfl)) (lk_cons (fnI_is Try.func33 (by kernel_rfl) (by kernel_rfl)) (lk_cons (fnI_is Try.func57 (by kernel_rfl) (by kernel_rfl)) (lk_cons (fnI_is Try.func84 (by kernel_rfl) (by kernel_rfl)) (lk_cons (fnI_is Try.func85 (by kernel_rfl) (by kernel_rfl)) (lk_cons (fnI_is Try.func31 (by kernel_rfl) (by kernel_rfl)) (lk_cons (fnI_is Try.func66 (by kernel_rfl) (by kernel_rfl)) (lk_nil)))))))))))))))))))))))))))))))))))))))))))
noncomputable def jnil_book : Book Try.prog := bookClone jnil_list jnil_is 77 fun s w hs => stringslite_Clone s w hs
set_option maxRecDepth 100000 in
theorem jr1 : retOf (callE Try.prog jnil_book 1000 60 40 [.lit (.pointer none), .lit (.string ⟨#[106]⟩)] noMem) = some (.lit (.tuple #[.pointer none, .slice none 0 0, .int .i64 2])) := by kernel_rfl
noncomputable def jm1 : Mem := memOf (callE Try.prog jnil_book 1000 60 40 [.lit (.pointer none), .lit (.string ⟨#[106]⟩)] noMem)
set_option maxRecDepth 100000 in
theorem jr2 : retOf (callE Try.prog jnil_book 1000 60 14 [.lit (.int .i64 100)] jm1) = some (.tup [.ptr 0 0, .lit (.int .i64 0)]) := by kernel_rfl
noncomputable def jm2 : Mem := memOf (callE Try.prog jnil_book 1000 60 14 [.lit (.int .i64 100)] jm1)
set_option maxRecDepth 100000 in
theorem jr3 : retOf (callE Try.prog jnil_book 1000 60 40 [.ptr 0 0, .lit (.string ⟨#[106]⟩)] jm2) = some (.tup [.ptr 1 0, .lit (.slice none 0 0), .lit (.int .i64 0)]) := by kernel_rfl
noncomputable def jm3 : Mem := memOf (callE Try.prog jnil_book 1000 60 40 [.ptr 0 0, .lit (.string ⟨#[106]⟩)] jm2)
set_option maxRecDepth 100000 in
theorem jn1 (a : Option Addr) (len cap : Nat) : retOf (callE Try.prog jnil_book 1000 60 42 [.lit (.pointer none), .lit (.slice a len cap)] noMem) = some (.lit (.int .i64 2)) := by kernel_rfl
set_option maxRecDepth 100000 in
theorem jn2 : retOf (callE Try.prog jnil_book 1000 60 43 [.lit (.pointer none)] noMem) = some (.lit (.int .i64 2)) := by kernel_rfl
set_option maxRecDepth 100000 in
theorem jn3 : retOf (callE Try.prog jnil_book 1000 60 48 [.lit (.pointer none)] noMem) = some (.lit (.int .i64 0)) := by kernel_rfl
set_option maxRecDepth 100000 in
theorem jn4 : retOf (callE Try.prog jnil_book 1000 60 44 [.lit (.pointer none), .lit (.slice none 0 0)] noMem) = some (.lit (.int .i64 2)) := by kernel_rfl
set_option maxRecDepth 100000 in
theorem jr7 (a : Option Addr) (cp : Nat) : retOf (callE Try.prog jnil_book 1000 60 25 [.ptr 0 0, .lit (.string ⟨#[106]⟩), .lit (.slice a 1048576 cp)] jm3) = some (.lit (.int .i64 4)) := by kernel_rfl
noncomputable def jm7 (a : Option Addr) (cp : Nat) : Mem := memOf (callE Try.prog jnil_book 1000 60 25 [.ptr 0 0, .lit (.string ⟨#[106]⟩), .lit (.slice a 1048576 cp)] jm3)
set_option maxRecDepth 100000 in
theorem jr8 (a : Option Addr) (cp : Nat) : retOf (callE Try.prog jnil_book 1000 60 48 [.ptr 1 0] (jm7 a cp)) = some (.lit (.int .i64 0)) := by kernel_rfl
def isCells1 : Option AB → Bool
  | some (.cells _ (.ptr 0 0 :: .lit (.string s) :: _) true) => decide (s = ⟨#[106]⟩)
  | _ => false
set_option maxRecDepth 100000 in
theorem jc3 : isCells1 (Mem.get jm3 1) = true := by kernel_rfl
set_option maxRecDepth 100000 in
theorem jc7 (a : Option Addr) (cp : Nat) : isCells1 (Mem.get (jm7 a cp) 1) = true := by kernel_rfl
end Go.Proofs.Ytjpcbmfnjifgfaa
