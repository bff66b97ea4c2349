/-
  The walks over slices.Clone at sums, Tops and Load of a frontier.
-/
import Derived.Test.YtlnblfdddellmaaDoorFbr
import Derived.Test.YtlnblfdddellmaaDoorOnw
import Derived.Test.YtlnblfdddellmaaDoorLtf
namespace Go.Proofs.YtlnblfdddellmaaDoor
open Go.RowKit
set_option linter.unusedVariables false
set_option maxRecDepth 100000 in
set_option maxHeartbeats 1000000 in
theorem clone_c (n : Nat) (ds : Ds) (a : Option Addr) (cap : Nat) (w : World) (hr : DR w a n ds) (hnil : a = none → cap = 0) (hnm : n ≤ 4398046511103) :
    Calls Tryd.prog 34 #[.slice a n cap] w (RetDs 32 ds w) := by
  have q0 : ∀ (W : World) (a : Option Addr) (n c : Nat), (binOp .eql 28 (.slice a n c) (.slice none 0 0)).run Tryd.prog W = .ok (.bool a.isNone) W := fun W a n c => Lib.run_eql_slice_nil W _ _ a n c 0 0 Tryd.underlying28
  cases a with
  | none =>
    obtain rfl := hnil rfl
    obtain rfl : n = 0 := by
      rcases hr.2.2.2.2 with h0 | ⟨b, off, hb, _⟩
      · omega
      · cases hb
    obtain rfl := hr.zero
    go_enter Tryd.func34, Tryd.ntmps34
    go_wp2
    go_ret
    exact ⟨_, rfl, OwnD.nil w _ _, Below.refl _ _⟩
  | some ad =>
    have HR := Lib.hid hr
    have HO := Lib.hid (show OwnD (w.alloc (.cells #[] 32)) w.heap.size 32 (.slice (some ⟨w.heap.size, 0, none⟩) 0 0) [] from World.ownsRow_made w #[] 0 (Nat.le_refl _) (by decide) rfl)
    have HRA := Lib.hid (HR.out.below ((Below.refl _ _).alloc (Nat.le_refl _) (.cells #[] 32)))
    have HB := Lib.hid (show Below w.heap.size w (w.alloc (.cells #[] 32)) from (Below.refl _ _).alloc (Nat.le_refl _) _)
    clear hr
    go_enter Tryd.func34, Tryd.ntmps34
    go_wp2_with (at_builtin; refine wpList_dcat dtA (by rfl) _ _ (by rfl) w.heap.size (.slice (some ⟨w.heap.size, 0, none⟩) 0 0) [] ds (by rfl) HO.out (by simp) (some ad) n cap (by rfl) HRA.out hnil (by simp; omega) ?_; intro v2 w2 hown2 hb2; have HO2 := Lib.hid (show OwnD w2 w.heap.size 32 v2 ds from hown2); have HB2 := Lib.hid (HB.out.trans hb2); clear hown2 hb2)
    go_ret
    exact ⟨_, rfl, HO2.out, HB2.out⟩
set_option maxRecDepth 100000 in
set_option maxHeartbeats 1000000 in
theorem tops_c (g n B : Nat) (v : Value) (ds : Ds) (w : World) (hF : FR w g n v) (hO : OwnD w B 32 v ds) (hd : ∀ d ∈ ds, D32 d) (hlm : ds.length ≤ 1000) :
    Calls Tryd.prog 9 #[.pointer (some ⟨g, 0, none⟩)] w (RetDs 32 ds w) := by
  obtain ⟨a, L, c, rfl, hL, hLc, hcm, hnil, hr⟩ := OwnD.form hO hd
  have HC := Lib.hid (clone_c L ds a c w hr hnil (by omega))
  have hc := hF.topsc
  clear hr hO hd hF hnil
  go_enter Tryd.func9, Tryd.ntmps9
  go_wp2_with fail
  refine HC.out.mono ?_
  rintro e w2 ⟨v2, rfl, ho2, hb2⟩
  have HO2 := Lib.hid ho2
  have HB2 := Lib.hid hb2
  clear ho2 hb2 hc
  go_wp2
  go_ret
  exact ⟨_, rfl, HO2.out, HB2.out⟩
/-- what Load tells -/
def LdRet (n : Nat) (ds : Ds) (w : World) (e : Ending) (w' : World) : Prop := ∃ g v, e = .returned (.tuple #[.pointer (some ⟨g, 0, none⟩), .int .i64 0]) ∧ w.heap.size ≤ g ∧ FR w' g n v ∧ OwnD w' w.heap.size 32 v ds ∧ Below w.heap.size w w'
set_option maxRecDepth 100000 in
set_option maxHeartbeats 2000000 in
theorem load_c (n m : Nat) (ds : Ds) (a : Option Addr) (cap : Nat) (w : World) (hn : n ≤ 9223372036854775807) (hr : DR w a m ds) (hnil : a = none → cap = 0) (hm : m = ones n) :
    Calls Tryd.prog 16 #[.int .i64 (n : Int), .slice a m cap] w (LdRet n ds w) := by
  have hle := ones_le63 n hn
  have HC := Lib.hid (clone_c m ds a cap w hr hnil (by omega))
  have HON := Lib.hid (fun W => count_c n W (by omega))
  rw [← hm] at HON hle
  have HDD := Lib.hid hr.2.1
  have hwr : IntKind.u64.wrap (n : Int) = (n : Int) := by rw [IntKind.wrap_u64]; omega
  have hn0 : ¬ (n : Int) < 0 := by omega
  have hn0' : decide ((n : Int) < 0) = false := decide_eq_false hn0
  clear hr hm hnil
  go_enter Tryd.func16, Tryd.ntmps16
  go_wp2_with fail
  refine (HON.out w).mono ?_
  rintro e w1 ⟨rfl, rfl⟩
  go_wp2_with fail
  refine HC.out.mono ?_
  rintro e w2 ⟨v2, rfl, ho2, hb2⟩
  obtain ⟨a2, L2, c2, rfl, _, _, _, _, _⟩ := OwnD.form ho2 HDD.out
  have HO2 := Lib.hid ho2
  have HB2 := Lib.hid hb2
  clear ho2 hb2 HC HON
  go_wp2
  refine bodyPost_ret (results_tmp2 rfl _ _ _) rfl ?_
  have hb3 : Below w2.heap.size w2 (w2.alloc (.cells #[.int .i64 (n : Int), .slice a2 L2 c2] 68)) := (Below.refl _ _).alloc (Nat.le_refl _) _
  exact ⟨w2.heap.size, .slice a2 L2 c2, rfl, HB2.out.size, heap_new _ _, OwnD.alloc HO2.out _, HB2.out.trans (hb3.mono HB2.out.size)⟩
set_option maxRecDepth 100000 in
set_option maxHeartbeats 2000000 in
theorem load_neg (n : Int) (m : Nat) (a : Option Addr) (cap : Nat) (w : World) (hn : n < 0) :
    Calls Tryd.prog 16 #[.int .i64 n, .slice a m cap] w fun e w' => e = .returned (.tuple #[.pointer none, .int .i64 1]) ∧ w = w' := by
  go_enter Tryd.func16, Tryd.ntmps16
  go_wp2
  refine bodyPost_ret (results_tmp2 rfl _ _ _) rfl ?_
  exact ⟨rfl, rfl⟩
set_option maxRecDepth 100000 in
set_option maxHeartbeats 2000000 in
theorem load_form (n m : Nat) (a : Option Addr) (cap : Nat) (w : World) (hn : n ≤ 9223372036854775807) (hm : m ≠ ones n) :
    Calls Tryd.prog 16 #[.int .i64 (n : Int), .slice a m cap] w fun e w' => e = .returned (.tuple #[.pointer none, .int .i64 10]) ∧ w = w' := by
  have hle := ones_le63 n hn
  have HON := Lib.hid (fun W => count_c n W (by omega))
  have hne : ((m : Int) == (ones n : Nat)) = false := by rw [beq_eq_false_iff_ne]; omega
  have hne' : ¬ (m : Int) = ((ones n : Nat) : Int) := by omega
  have hwr : IntKind.u64.wrap (n : Int) = (n : Int) := by rw [IntKind.wrap_u64]; omega
  have hn0 : ¬ (n : Int) < 0 := by omega
  have hn0' : decide ((n : Int) < 0) = false := decide_eq_false hn0
  go_enter Tryd.func16, Tryd.ntmps16
  go_wp2_with fail
  refine (HON.out w).mono ?_
  rintro e w1 ⟨rfl, rfl⟩
  go_wp2
  refine bodyPost_ret (results_tmp2 rfl _ _ _) rfl ?_
  exact ⟨rfl, rfl⟩
end Go.Proofs.YtlnblfdddellmaaDoor
