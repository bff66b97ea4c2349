/-
  What the calls of disk's awake come to, by their runs (Crash apart).
-/
import Derived.Test.YtjpcbmfnjifgfaaEvd
import Derived.Test.YtjpcbmfnjifgfaaShf
import Derived.Test.YtjpcbmfnjifgfaaProg
namespace Go.Proofs.Ytjpcbmfnjifgfaa
open Go.Proofs.Ytjpcbmfnjifgfaa.Ev
open Go.RowKit
set_option linter.unusedVariables false
noncomputable def dawk_list : List (Nat × FnI) := [(13, fnI Try.f13), (14, fnI Try.f14), (20, fnI Try.f20), (25, fnI Try.f25), (26, fnI Try.f26), (28, fnI Try.f28), (54, fnI Try.f54), (18, fnI Try.f18), (55, fnI Try.f55), (56, fnI Try.f56), (57, fnI Try.f57), (63, fnI Try.f63), (64, fnI Try.f64), (65, fnI Try.f65), (77, fnI Try.f77), (83, fnI Try.f83), (66, fnI Try.f66)]
theorem dawk_is : ∀ f i, lk dawk_list f = some i → FnIs Try.prog f i := lk_cons (fnI_is Try.func13 (by kernel_rfl) (by kernel_rfl)) (lk_cons (fnI_is Try.func14 (by kernel_rfl) (by kernel_rfl)) (lk_cons (fnI_is Try.func20 (by kernel_rfl) (by kernel_rfl)) (lk_cons (fnI_is Try.func25 (by kernel_rfl) (by kernel_rfl)) (lk_cons (fnI_is Try.func26 (by kernel_rfl) (by kernel_rfl)) (lk_cons (fnI_is Try.func28 (by kernel_rfl) (by kernel_rfl)) (lk_cons (fnI_is Try.func54 (by kernel_rfl) (by kernel_rfl)) (lk_cons (fnI_is Try.func18 (by kernel_rfl) (by kernel_rfl)) (lk_cons (fnI_is Try.func55 (by kernel_rfl) (by kernel_rfl)) (lk_cons (fnI_is Try.func56 (by kernel_rfl) (by kernel_rfl)) (lk_cons (fnI_is Try.func57 (by kernel_rfl) (by kernel_rfl)) (lk_cons (fnI_is Try.func63 (by kernel_rfl) (by kernel_rfl)) (lk_cons (fnI_is Try.func64 (by kernel_rfl) (by kernel_rfl)) (lk_cons (fnI_is Try.func65 (by kernel_rfl) (by kernel_rfl)) (lk_cons (fnI_is Try.func77 (by kernel_rfl) (by kernel_rfl)) (lk_cons (fnI_is Try.func83 (by kernel_rfl) (by kernel_rfl)) (lk_cons (fnI_is Try.func66 (by kernel_rfl) (by kernel_rfl)) (lk_nil)))))))))))))))))
noncomputable def dawk_book : Book Try.prog := bookClone dawk_list dawk_is 77 fun s w hs => stringslite_Clone s w hs
set_option maxRecDepth 100000 in
theorem dr1 : retOf (callE Try.prog dawk_book 1000 60 14 [.lit (.int .i64 9)] noMem) = some (.tup [.ptr 0 0, .lit (.int .i64 0)]) := by kernel_rfl
noncomputable def dk1 : Mem := memOf (callE Try.prog dawk_book 1000 60 14 [.lit (.int .i64 9)] noMem)
set_option maxRecDepth 100000 in
theorem dr2 : retOf (callE Try.prog dawk_book 1000 60 20 [.ptr 0 0, .lit (.string ⟨#[97]⟩)] dk1) = some (.lit (.int .i64 0)) := by kernel_rfl
noncomputable def dk2 : Mem := memOf (callE Try.prog dawk_book 1000 60 20 [.ptr 0 0, .lit (.string ⟨#[97]⟩)] dk1)
noncomputable def dk3 : Mem := dk2.new (.cells 5 [.lit (.int .u8 120), .lit (.int .u8 121)] true)
set_option maxRecDepth 100000 in
theorem dr3 : retOf (callE Try.prog dawk_book 1000 60 25 [.ptr 0 0, .lit (.string ⟨#[97]⟩), .sl dk2.next 0 2 1 (some 2)] dk3) = some (.lit (.int .i64 0)) := by kernel_rfl
noncomputable def dk4 : Mem := memOf (callE Try.prog dawk_book 1000 60 25 [.ptr 0 0, .lit (.string ⟨#[97]⟩), .sl dk2.next 0 2 1 (some 2)] dk3)
def dch : AV := .agg [.lit (.int .i64 1), .ptr 1 0, .lit (.int .i64 0), .lit (.string ⟨#[]⟩), .lit (.pointer none)]
set_option maxRecDepth 100000 in
theorem dr5 : retOf (callE Try.prog dawk_book 1000 60 65 [.ptr 0 0, dch, .lit (.int .i64 1)] dk4) = some (.lit (.tuple #[])) := by kernel_rfl
noncomputable def dk5 : Mem := memOf (callE Try.prog dawk_book 1000 60 65 [.ptr 0 0, dch, .lit (.int .i64 1)] dk4)
/-- a struct of six cells -/
def row6 : Option AB → Option (TypeId × List AV)
  | some (.cells t [a, b, c, d, e, f] true) => some (t, [a, b, c, d, e, f])
  | _ => none
theorem row6_some {k : Option AB} {t : TypeId} {l : List AV} (h : row6 k = some (t, l)) : k = some (.cells t l true) ∧ l.length = 6 := by
  unfold row6 at h
  split at h
  · cases h; exact ⟨rfl, rfl⟩
  · cases h
def crashed (m : Mem) : Mem := match m.get 0 with
  | some (.cells t [a, b, c, d, e, f] true) => m.write 0 (some (.cells t [a, b, c, .lit (.slice none 0 0), .lit (.int .i64 (-1)), .lit (.bool false)] true))
  | _ => m
noncomputable def dk6 : Mem := crashed dk5
set_option maxRecDepth 100000 in
theorem dr7 : retOf (callE Try.prog dawk_book 1000 60 28 [.ptr 0 0, .lit (.string ⟨#[97]⟩), .lit (.int .i64 0), .lit (.int .i64 9)] dk6) = some (.tup [.sl 10 0 1 1 none, .lit (.int .i64 0)]) := by kernel_rfl
noncomputable def dk7 : Mem := memOf (callE Try.prog dawk_book 1000 60 28 [.ptr 0 0, .lit (.string ⟨#[97]⟩), .lit (.int .i64 0), .lit (.int .i64 9)] dk6)
def is1 : Option AB → Bool
  | some (.cells _ (.lit (.int .u8 n) :: _) _) => decide (n = 120)
  | _ => false
set_option maxRecDepth 100000 in
theorem dc7 : is1 (dk7.get 10) = true := by kernel_rfl
def loose4 : Option AB → Bool
  | some (.cells _ [_, _, _, .sl 7 0 2 5 none, _, _] true) => true
  | _ => false
set_option maxRecDepth 100000 in
theorem dc4 : loose4 (dk4.get 0) = true := by kernel_rfl
set_option maxRecDepth 100000 in
theorem dc5 : (row6 (dk5.get 0)).isSome = true := by kernel_rfl
def chg : Option AB → Bool
  | some (.cells _ [_, _, _, _, _, .lit (.int .i64 a), .ptr 1 0, .lit (.int .i64 b), .lit (.string s), .lit (.pointer none)] _) => decide (a = 1 ∧ b = 0 ∧ s = ⟨#[]⟩)
  | _ => false
set_option maxRecDepth 100000 in
theorem dc47 : chg (dk4.get 7) = true := by kernel_rfl
end Go.Proofs.Ytjpcbmfnjifgfaa
