/-
  The table's Get, ready, keep, noted.
-/
import Derived.Test.YtjjkfbebaoikbaaTbe
import Derived.Test.YtjjkfbebaoikbaaJof
namespace Go.Proofs.Ytjjkfbebaoikbaa
open Go.RowKit Go.Maps
set_option linter.unusedVariables false
/-- a table's struct -/
def TRow (w : World) (tb : Nat) (jv : Value) (m : Nat) (dn : Bool) : Prop := w.heap[tb]? = some (.cells #[jv, .map (some m), .bool dn] 67 (0, 0))
theorem TRow.cells {w : World} {tb m : Nat} {jv : Value} {dn : Bool} (h : TRow w tb jv m dn) : w.cell? ⟨tb, 0, none⟩ = some jv ∧ w.cell? ⟨tb, 1, none⟩ = some (.map (some m)) ∧ w.cell? ⟨tb, 2, none⟩ = some (.bool dn) := ⟨(cell_of_row w tb 0 _ _ _ h).trans rfl, (cell_of_row w tb 1 _ _ _ h).trans rfl, (cell_of_row w tb 2 _ _ _ h).trans rfl⟩
set_option maxRecDepth 100000 in
set_option maxHeartbeats 2000000 in
theorem tget_c {B m n tb : Nat} {V : Nat → Prop} {D : DU} {f : ByteArray → Option (List Nat)} {jv : Value} {dn : Bool} {w : World} (h : TM B V w m n D f) (ht : TRow w tb jv m dn) (s : ByteArray) (hs : s.size ≤ maxLen) (hv : ((f s).getD []).length ≤ 140737488351232) :
    Calls Try.prog 14 #[.pointer (some ⟨tb, 0, none⟩), .string s] w fun e w' => ∃ v, e = .returned (.tuple #[v, .bool (f s).isSome]) ∧ Own w' w.heap.size v ((f s).getD []) ∧ Below w.heap.size w w' := by
  obtain ⟨v0, hlk, ho, hz⟩ := h.look hs
  obtain ⟨a, L, c, rfl, hl, hlc, hcm, hnil, hr, -⟩ := ho.form hz
  have y1 := ht.cells.2.1
  have HC := Lib.hid (bclone_c a L c _ w hr hnil (by omega))
  obtain ⟨ok, hok⟩ : ∃ ok, (f s).isSome = ok := ⟨_, rfl⟩
  obtain ⟨zs, hzs⟩ : ∃ zs, (f s).getD [] = zs := ⟨_, rfl⟩
  rw [hok] at hlk ⊢
  rw [hzs] at HC ⊢
  clear h ht ho hz hl hlc hcm hnil hr hok hzs hv
  go_enter Try.func14, Try.ntmps14
  go_wp2_with fail
  refine HC.out.mono ?_
  rintro e1 w1 ⟨v1, rfl, ho1, hb1⟩
  have HE := Lib.hid (And.intro ho1 hb1)
  clear ho1 hb1 HC hlk
  go_wp2_with fail
  go_ret2
  exact ⟨_, rfl, HE.out⟩
set_option maxRecDepth 100000 in
set_option maxHeartbeats 2000000 in
theorem tready_c {tb m : Nat} {jv : Value} {dn : Bool} {w : World} (ht : TRow w tb jv m dn) :
    Calls Try.prog 25 #[.pointer (some ⟨tb, 0, none⟩)] w fun e w' => e = .returned (.int .i64 (if dn then 5 else 0)) ∧ w' = w := by
  have y2 := ht.cells.2.2
  clear ht
  cases dn with
  | true =>
    go_enter Try.func25, Try.ntmps25
    go_wp2_with fail
    go_ret
    exact ⟨rfl, rfl⟩
  | false =>
    go_enter Try.func25, Try.ntmps25
    go_wp2_with fail
    go_ret
    exact ⟨rfl, rfl⟩
/-- a record is kept: what Append and Sync make of the disk -/
def Ad.keep (A : Ad) (nm : ByteArray) (p : List Nat) : Ad × Int := if (A.step ⟨1, nm, ⟨#[]⟩, Frm.frameL p⟩).2 = 0 then (A.step ⟨1, nm, ⟨#[]⟩, Frm.frameL p⟩).1.sync else A.step ⟨1, nm, ⟨#[]⟩, Frm.frameL p⟩
/-- what keep leaves -/
def KeepR (X : Nat → Prop) (B d jb N : Nat) (nm : ByteArray) (w : World) (sz len : Nat) (A : Ad) (p : List Nat) (e : Ending) (w' : World) : Prop :=
  e = .returned (.int .i64 (A.keep nm p).2) ∧ Jn X B d jb nm ((if (A.step ⟨1, nm, ⟨#[]⟩, Frm.frameL p⟩).2 = 0 then sz + (8 + len) else sz : Nat) : Int) N (A.keep nm p).1 w' ∧ Below B w w' ∧ ∀ j, X j → j ≠ jb → w'.heap[j]? = w.heap[j]?
set_option maxRecDepth 100000 in
set_option maxHeartbeats 4000000 in
theorem tkeep_c {X : Nat → Prop} {B d jb N sz tb m : Nat} {nm : ByteArray} {A : Ad} {w : World} {dn : Bool} (h : Jn X B d jb nm (sz : Int) N A w) (ht : TRow w tb (.pointer (some ⟨jb, 0, none⟩)) m dn) (hx : X tb) (hj : tb ≠ jb) (hN : N < 100000000) (hn : nm.size ≤ 1000) (hsz : sz ≤ 1000000000000) (pa : Option Addr) (pn pc : Nat) (p : List Nat) (hr : Rd w pa pn p) (hnil : pa = none → pc = 0) (hpn : pn ≤ 1048568) :
    Calls Try.prog 27 #[.pointer (some ⟨tb, 0, none⟩), .slice pa pn pc] w (KeepR X B d jb (N + 6) nm w sz pn A p) := by
  obtain ⟨y0, y1, y2⟩ := ht.cells
  have hap := jappend_c h hN hn hsz pa pn pc p hr hnil hpn
  unfold KeepR Ad.keep
  obtain ⟨r, hrr⟩ : ∃ r, A.step ⟨1, nm, ⟨#[]⟩, Frm.frameL p⟩ = r := ⟨_, rfl⟩
  rw [hrr] at hap ⊢
  obtain ⟨A', x⟩ := r
  have HAP := Lib.hid hap
  have HT := Lib.hid ht
  have HX := Lib.hid (And.intro hx hj)
  have HB0 := Lib.hid (show B ≤ w.heap.size from Nat.le_of_lt (Nat.lt_of_le_of_lt h.dx.base.1 h.dx.base.2))
  clear hap hrr h ht hx hj hr hnil
  go_enter Try.func27, Try.ntmps27
  go_wp2_with fail
  refine HAP.out.mono ?_
  rintro e1 w1 ⟨rfl, hj1, hb1, hk1⟩
  have HJ1 := Lib.hid hj1
  have HB1 := Lib.hid hb1
  have HK1 := Lib.hid hk1
  obtain ⟨z0, z1, z2⟩ := (show TRow w1 tb (.pointer (some ⟨jb, 0, none⟩)) m dn from (hk1 tb HX.out.1 HX.out.2).trans HT.out).cells
  clear hj1 hb1 hk1 HAP y0 y1 y2
  by_cases h0 : x = 0
  · subst h0
    have HS := Lib.hid (jsync_c (show Jn X B d jb nm ((sz + (8 + pn) : Nat) : Int) (N + 3) A' w1 from HJ1.out))
    go_wp2_with fail
    refine HS.out.mono ?_
    rintro e2 w2 ⟨rfl, hj2, hb2, hk2⟩
    have HE := Lib.hid (show Jn X B d jb nm ((sz + (8 + pn) : Nat) : Int) (N + 6) A'.sync.1 w2 ∧ Below B w w2 ∧ ∀ j, X j → j ≠ jb → w2.heap[j]? = w.heap[j]? from ⟨hj2, HB1.out.trans hb2, fun j a b => (hk2 j a).trans (HK1.out j a b)⟩)
    clear hj2 hb2 hk2 HS z0 z1 z2
    go_wp2_with fail
    go_ret
    exact ⟨rfl, HE.out⟩
  · have hx0 : (x != 0) = true := by simp [h0]
    have HE := Lib.hid (show Jn X B d jb nm ((if x = 0 then sz + (8 + pn) else sz : Nat) : Int) (N + 6) A' w1 from ⟨HJ1.out.dx.mono (by omega), HJ1.out.xj, HJ1.out.bj, HJ1.out.row⟩)
    go_wp2_with fail
    go_ret
    simp only [h0, if_false]
    refine ⟨rfl, ?_, HB1.out, HK1.out⟩
    have := HE.out
    simpa only [h0, if_false] using this
end Go.Proofs.Ytjjkfbebaoikbaa
