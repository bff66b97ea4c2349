/-
  What the calls of disk's awake come to, by their runs (Crash apart).
-/
import Derived.Test.YtbbljkhjodnfpaaEvd
import Derived.Test.YtbbljkhjodnfpaaShf
import Derived.Test.YtbbljkhjodnfpaaProg
namespace Go.Proofs.Ytbbljkhjodnfpaa
open Go.Proofs.Ytbbljkhjodnfpaa.Ev
open Go.RowKit
set_option linter.unusedVariables false
noncomputable def dawk_list : List (Nat × FnI) := [(8, fnI Try.f8), (9, fnI Try.f9), (15, fnI Try.f15), (47, fnI Try.f47), (28, fnI Try.f28), (48, fnI Try.f48), (60, fnI Try.f60), (13, fnI Try.f13), (61, fnI Try.f61), (62, fnI Try.f62), (63, fnI Try.f63), (89, fnI Try.f89), (74, fnI Try.f74), (75, fnI Try.f75), (92, fnI Try.f92), (111, fnI Try.f111), (90, fnI Try.f90)]
theorem dawk_is : ∀ f i, lk dawk_list f = some i → FnIs Try.prog f i := lk_cons (fnI_is Try.func8 (by kernel_rfl) (by kernel_rfl)) (lk_cons (fnI_is Try.func9 (by kernel_rfl) (by kernel_rfl)) (lk_cons (fnI_is Try.func15 (by kernel_rfl) (by kernel_rfl)) (lk_cons (fnI_is Try.func47 (by kernel_rfl) (by kernel_rfl)) (lk_cons (fnI_is Try.func28 (by kernel_rfl) (by kernel_rfl)) (lk_cons (fnI_is Try.func48 (by kernel_rfl) (by kernel_rfl)) (lk_cons (fnI_is Try.func60 (by kernel_rfl) (by kernel_rfl)) (lk_cons (fnI_is Try.func13 (by kernel_rfl) (by kernel_rfl)) (lk_cons (fnI_is Try.func61 (by kernel_rfl) (by kernel_rfl)) (lk_cons (fnI_is Try.func62 (by kernel_rfl) (by kernel_rfl)) (lk_cons (fnI_is Try.func63 (by kernel_rfl) (by kernel_rfl)) (lk_cons (fnI_is Try.func89 (by kernel_rfl) (by kernel_rfl)) (lk_cons (fnI_is Try.func74 (by kernel_rfl) (by kernel_rfl)) (lk_cons (fnI_is Try.func75 (by kernel_rfl) (by kernel_rfl)) (lk_cons (fnI_is Try.func92 (by kernel_rfl) (by kernel_rfl)) (lk_cons (fnI_is Try.func111 (by kernel_rfl) (by kernel_rfl)) (lk_cons (fnI_is Try.func90 (by kernel_rfl) (by kernel_rfl)) (lk_nil)))))))))))))))))
noncomputable def dawk_book : Book Try.prog := bookClone dawk_list dawk_is 92 fun s w hs => stringslite_Clone s w hs
set_option maxRecDepth 100000 in
theorem dr1 : retOf (callE Try.prog dawk_book 1000 60 9 [.lit (.int .i64 9)] noMem) = some (.tup [.ptr 0 0, .lit (.int .i64 0)]) := by kernel_rfl
noncomputable def dk1 : Mem := memOf (callE Try.prog dawk_book 1000 60 9 [.lit (.int .i64 9)] noMem)
set_option maxRecDepth 100000 in
theorem dr2 : retOf (callE Try.prog dawk_book 1000 60 15 [.ptr 0 0, .lit (.string ⟨#[97]⟩)] dk1) = some (.lit (.int .i64 0)) := by kernel_rfl
noncomputable def dk2 : Mem := memOf (callE Try.prog dawk_book 1000 60 15 [.ptr 0 0, .lit (.string ⟨#[97]⟩)] dk1)
noncomputable def dk3 : Mem := dk2.new (.cells 5 [.lit (.int .u8 120), .lit (.int .u8 121)] true)
set_option maxRecDepth 100000 in
theorem dr3 : retOf (callE Try.prog dawk_book 1000 60 47 [.ptr 0 0, .lit (.string ⟨#[97]⟩), .sl dk2.next 0 2 1 (some 2)] dk3) = some (.lit (.int .i64 0)) := by kernel_rfl
noncomputable def dk4 : Mem := memOf (callE Try.prog dawk_book 1000 60 47 [.ptr 0 0, .lit (.string ⟨#[97]⟩), .sl dk2.next 0 2 1 (some 2)] dk3)
def dch : AV := .agg [.lit (.int .i64 1), .ptr 1 0, .lit (.int .i64 0), .lit (.string ⟨#[]⟩), .lit (.pointer none)]
set_option maxRecDepth 100000 in
theorem dr5 : retOf (callE Try.prog dawk_book 1000 60 75 [.ptr 0 0, dch, .lit (.int .i64 1)] dk4) = some (.lit (.tuple #[])) := by kernel_rfl
noncomputable def dk5 : Mem := memOf (callE Try.prog dawk_book 1000 60 75 [.ptr 0 0, dch, .lit (.int .i64 1)] dk4)
/-- a struct of six cells -/
def row6 : Option AB → Option (TypeId × List AV)
  | some (.cells t [a, b, c, d, e, f] true) => some (t, [a, b, c, d, e, f])
  | _ => none
theorem row6_some {k : Option AB} {t : TypeId} {l : List AV} (h : row6 k = some (t, l)) : k = some (.cells t l true) ∧ l.length = 6 := by
  unfold row6 at h
  split at h
  · cases h; exact ⟨rfl, rfl⟩
  · cases h
def crashed (m : Mem) : Mem := match m.get 0 with
  | some (.cells t [a, b, c, d, e, f] true) => m.write 0 (some (.cells t [a, b, c, .lit (.slice none 0 0), .lit (.int .i64 (-1)), .lit (.bool false)] true))
  | _ => m
noncomputable def dk6 : Mem := crashed dk5
set_option maxRecDepth 100000 in
theorem dr7 : retOf (callE Try.prog dawk_book 1000 60 48 [.ptr 0 0, .lit (.string ⟨#[97]⟩), .lit (.int .i64 0), .lit (.int .i64 9)] dk6) = some (.tup [.sl 10 0 1 1 none, .lit (.int .i64 0)]) := by kernel_rfl
noncomputable def dk7 : Mem := memOf (callE Try.prog dawk_book 1000 60 48 [.ptr 0 0, .lit (.string ⟨#[97]⟩), .lit (.int .i64 0), .lit (.int .i64 9)] dk6)
def is1 : Option AB → Bool
  | some (.cells _ (.lit (.int .u8 n) :: _) _) => decide (n = 120)
  | _ => false
set_option maxRecDepth 100000 in
theorem dc7 : is1 (dk7.get 10) = true := by kernel_rfl
def loose4 : Option AB → Bool
  | some (.cells _ [_, _, _, .sl 7 0 2 5 none, _, _] true) => true
  | _ => false
set_option maxRecDepth 100000 in
theorem dc4 : loose4 (dk4.get 0) = true := by kernel_rfl
set_option maxRecDepth 100000 in
theorem dc5 : (row6 (dk5.get 0)).isSome = true := by kernel_rfl
def chg : Option AB → Bool
  | some (.cells _ [_, _, _, _, _, .lit (.int .i64 a), .ptr 1 0, .lit (.int .i64 b), .lit (.string s), .lit (.pointer none)] _) => decide (a = 1 ∧ b = 0 ∧ s = ⟨#[]⟩)
  | _ => false
set_option maxRecDepth 100000 in
theorem dc47 : chg (dk4.get 7) = true := by kernel_rfl
end Go.Proofs.Ytbbljkhjodnfpaa
