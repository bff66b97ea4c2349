/-
  The walks over the document's Root, and over Root.
-/
import Derived.Test.YtlnblfdddellmaaDoorHal
namespace Go.Proofs.YtlnblfdddellmaaDoor
open Go.RowKit
set_option linter.unusedVariables false
/-- the root of a list of sums -/
def rootS (ds : Ds) : List Nat := Mk.root (Sha.sum []) nodeS ds
theorem rootS_nil : rootS [] = Sha.sum [] := Mk.root_nil _ _
theorem rootS_one (d : List Nat) : rootS [d] = d := Mk.root_one _ _ d
theorem rootS_more (ds : Ds) (h : 2 ≤ ds.length) : rootS ds = nodeS (rootS (ds.take (Mk.half ds.length))) (rootS (ds.drop (Mk.half ds.length))) := Mk.root_more _ _ ds h
theorem d32_root (ds : Ds) (h : ∀ d ∈ ds, D32 d) : D32 (rootS ds) := by
  match ds, h with
  | [], _ => rw [rootS_nil]; exact d32_sum _
  | [d], h => rw [rootS_one]; exact h d (by simp)
  | d :: e :: l, _ => rw [rootS_more _ (by simp)]; exact d32_sum _
theorem info32 {T E : TypeId} (hT : DT T E) {d : List Nat} (h : D32 d) : (Tryd.prog.info? E).map (·.size) = some (cellsOf d).toArray.size := by rw [cellsOf_size, h.1]; exact hT.size
theorem zsize {d : List Nat} (h : D32 d) : (cellsOf zs32).toArray.size = (cellsOf d).toArray.size := by rw [cellsOf_size, cellsOf_size, h.1, zs32_len]
set_option maxRecDepth 100000 in
set_option maxHeartbeats 1000000 in
theorem rroot_0 (a : Option Addr) (cap : Nat) (w : World) :
    Calls Tryd.prog 12 #[.slice a 0 cap] w (DigRet (Sha.sum []) w) := by
  obtain ⟨S, hS⟩ : ∃ S, S = Sha.sum [] := ⟨_, rfl⟩
  have HS := Lib.hid (show D32 S from by rw [hS]; exact d32_sum _)
  have HSUM := Lib.hid (fun W => rsum_c [] none 0 0 W ⟨rfl, by simp, .inl rfl⟩ (by omega))
  rw [← hS] at HSUM ⊢
  clear hS
  go_enter Tryd.func12, Tryd.ntmps12
  go_upto_region 1 with fail
  refine gen_code (F := fun W => Brow W w.heap.size 31 zs32 ∧ Below w.heap.size w W) ⟨heap_new _ _, (Below.refl _ _).alloc (Nat.le_refl _) _⟩ ?_
  rintro wA ⟨hd, hb⟩
  have HD := Lib.hid hd
  have HB := Lib.hid hb
  clear hd hb
  go_wp2_with fail
  refine (HSUM.out _).mono ?_
  rintro e w2 ⟨rfl, hb2⟩
  have HD2 := Lib.hid (HD.out.below hb2 HD.out.lt)
  have HB2 := Lib.hid (HB.out.trans (hb2.mono HB.out.size))
  have HI := Lib.hid (info32 dtR HS.out)
  have HZ := Lib.hid (zsize HS.out)
  clear hb2
  go_wp2_with (first | (refine wpList_store_row (by rfl) 31 _ _ (by rfl) w.heap.size (cellsOf S).toArray (by rfl) (by rfl) 31 (cellsOf zs32).toArray HD2.out HI.out HZ.out (cellsOf_all _) ?_))
  refine bodyPost_ret (results_cell_row (by rfl) _ _ w.heap.size _ (cellsOf S).toArray (0, 0) _ (by rfl) HD2.out.setRow Tryd.underlying31 (by rfl) HI.out) ?_ ?_
  · rfl
  · exact ⟨rfl, HB2.out.setRow (by omega) _⟩
set_option maxRecDepth 100000 in
set_option maxHeartbeats 1000000 in
theorem rroot_1 (b o cap : Nat) (d : List Nat) (w : World) (hd : D32 d) (hb : b < w.heap.size) (hc : w.rangeAt b o (cellsOf d)) :
    Calls Tryd.prog 12 #[.slice (some ⟨b, o, none⟩) 1 cap] w (DigRet d w) := by
  have HD := Lib.hid hd
  have kI := fun W => run_dindex dtR W b o 1 cap 0 (by omega)
  simp only [Nat.zero_mul, Nat.add_zero, Int.cast_ofNat_Int] at kI
  have HC := Lib.hid hc
  clear hd hc
  go_enter Tryd.func12, Tryd.ntmps12
  go_upto_region 1 with fail
  refine gen_code (F := fun W => Brow W w.heap.size 31 zs32 ∧ Below w.heap.size w W) ⟨heap_new _ _, (Below.refl _ _).alloc (Nat.le_refl _) _⟩ ?_
  rintro wA ⟨hd, hbw⟩
  have HZ0 := Lib.hid hd
  have HB := Lib.hid hbw
  have HL := Lib.hid (run_dload dtR wA b o d HD.out (fun j v hv => ((hbw.cell (p := ⟨b, o + j, none⟩) hb).trans (HC.out j v hv))))
  have HI := Lib.hid (info32 dtR HD.out)
  have HZ := Lib.hid (zsize HD.out)
  clear hd hbw
  go_wp2_with (first | (refine wpList_loadg (ops := _) 31 _ (by rfl) (by rfl) (.pointer (some ⟨b, o, none⟩)) (by rfl) (.agg (cellsOf d).toArray) HL.out ?_) | (refine wpList_store_row (by rfl) 31 _ _ (by rfl) w.heap.size (cellsOf d).toArray (by rfl) (by rfl) 31 (cellsOf zs32).toArray HZ0.out HI.out HZ.out (cellsOf_all _) ?_))
  refine bodyPost_ret (results_cell_row (by rfl) _ _ w.heap.size _ (cellsOf d).toArray (0, 0) _ (by rfl) HZ0.out.setRow Tryd.underlying31 (by rfl) HI.out) ?_ ?_
  · rfl
  · exact ⟨rfl, HB.out.setRow (by omega) _⟩
/-- what a list's shorter lists give -/
def RIH (f : FuncId) (n : Nat) : Prop := ∀ m, m < n → ∀ (ds : Ds) (a : Option Addr) (cap : Nat) (w : World), DR w a m ds → m ≤ cap → cap ≤ 9223372036854775807 → Calls Tryd.prog f #[.slice a m cap] w (DigRet (rootS ds) w)
set_option maxRecDepth 100000 in
set_option maxHeartbeats 2000000 in
theorem rroot_2 (n k : Nat) (ih : RIH 12 n) (ds : Ds) (a : Option Addr) (cap : Nat) (w : World) (hr : DR w a n ds) (hlc : n ≤ cap) (hcm : cap ≤ 9223372036854775807) (h2 : 2 ≤ n) (hk : Mk.half n = k) :
    Calls Tryd.prog 12 #[.slice a n cap] w (DigRet (rootS ds) w) := by
  have hk0 : 0 < k := by rw [← hk]; exact Mk.half_pos n
  have hkn : k < n := by rw [← hk]; exact Mk.half_lt n h2
  have HK := Lib.hid hk
  have HIH := Lib.hid ih
  have HR := Lib.hid hr
  have HH := Lib.hid (fun W => rhalf_c n W h2 (by omega))
  rw [hk] at HH
  have q0 : ¬ n = 0 := by omega
  have q1 : ¬ n = 1 := by omega
  have kH := fun W => run_dheadAt dtR W a n cap k (by omega)
  have kT := fun W => run_dcutAt dtR W a n cap k (by omega)
  obtain ⟨S, hS⟩ : ∃ S, S = rootS ds := ⟨_, rfl⟩
  have HS := Lib.hid (show D32 S from by rw [hS]; exact d32_root _ hr.2.1)
  have HSE := Lib.hid (show nodeS (rootS (ds.take k)) (rootS (ds.drop k)) = S from by rw [hS, rootS_more ds (by rw [hr.1]; exact h2), hr.1, hk])
  rw [← hS]
  clear hS hr ih hk
  go_enter Tryd.func12, Tryd.ntmps12
  go_upto_region 1 with fail
  refine gen_code (F := fun W => Brow W w.heap.size 31 zs32 ∧ Below w.heap.size w W) ⟨heap_new _ _, (Below.refl _ _).alloc (Nat.le_refl _) _⟩ ?_
  rintro wA ⟨hd, hb⟩
  have HD := Lib.hid hd
  have HB := Lib.hid hb
  clear hd hb
  obtain ⟨X, hX⟩ : ∃ X, X = rootS (ds.take k) := ⟨_, rfl⟩
  obtain ⟨Y, hY⟩ : ∃ Y, Y = rootS (ds.drop k) := ⟨_, rfl⟩
  rw [← hX, ← hY] at HSE
  have HX := Lib.hid (show D32 X from by rw [hX]; exact d32_root _ (d32_take HR.out.2.1 k))
  have HY := Lib.hid (show D32 Y from by rw [hY]; exact d32_root _ (d32_drop HR.out.2.1 k))
  have HCX := Lib.hid (show ∀ W, DR W a n ds → Calls Tryd.prog 12 #[.slice a k cap] W (DigRet X W) from fun W hW => by rw [hX]; exact HIH.out k hkn _ a cap W (hW.take k (by omega)) (by omega) hcm)
  have HCY := Lib.hid (show ∀ W, DR W a n ds → Calls Tryd.prog 12 #[.slice (sld a cap k) (n - k) (cap - k)] W (DigRet Y W) from fun W hW => by rw [hY]; exact HIH.out (n - k) (by omega) _ _ (cap - k) W (hW.drop cap k (by omega) hlc) (by omega) (by omega))
  clear hX hY HIH
  have HIX := Lib.hid (info32 dtR HX.out)
  have HZX := Lib.hid (zsize HX.out)
  have HIY := Lib.hid (info32 dtR HY.out)
  have HZY := Lib.hid (zsize HY.out)
  have HNODE := Lib.hid (fun W => rnode_c X Y W HX.out HY.out)
  rw [HSE.out] at HNODE
  go_upto_region 6 with (first | (go_at_call 37; refine (HH.out _).mono ?_; rintro e wb ⟨rfl, rfl⟩))
  go_wp2_with fail
  refine (HCX.out _ (HR.out.below HB.out)).mono ?_
  rintro e w1 ⟨rfl, hb1⟩
  have HD1 := Lib.hid (HD.out.below hb1 HD.out.lt)
  have HB1 := Lib.hid (HB.out.trans (hb1.mono HB.out.size))
  have hlt1 := HD1.out.lt
  clear hb1
  have K1 := Lib.hid (fun (O : Obj) (hO : O = .cells (cellsOf zs32).toArray 31 (0, 0)) => show Brow ((w1.alloc O).setRow w1.heap.size (cellsOf X).toArray) w1.heap.size 31 X ∧ Brow ((w1.alloc O).setRow w1.heap.size (cellsOf X).toArray) w.heap.size 31 zs32 ∧ Below w.heap.size w ((w1.alloc O).setRow w1.heap.size (cellsOf X).toArray) from by
    subst hO
    have hb : Below w1.heap.size w1 ((w1.alloc (.cells (cellsOf zs32).toArray 31 (0, 0))).setRow w1.heap.size (cellsOf X).toArray) := ((Below.refl _ _).alloc (Nat.le_refl _) _).setRow (Nat.le_refl _) _
    exact ⟨(Brow.new w1 31 zs32).setRow, HD1.out.below hb HD1.out.lt, HB1.out.trans (hb.mono HB1.out.size)⟩)
  go_upto_region 7 with (first | (refine wpList_store_row (by rfl) 31 _ _ (by rfl) w1.heap.size (cellsOf X).toArray (by rfl) (by rfl) 31 (cellsOf zs32).toArray (by exact heap_new _ _) HIX.out HZX.out (cellsOf_all _) ?_))
  refine gen_code (F := fun W => Brow W w1.heap.size 31 X ∧ Brow W w.heap.size 31 zs32 ∧ Below w.heap.size w W) (K1.out _ rfl) ?_
  rintro wB ⟨hx, hd, hb⟩
  have HXB := Lib.hid hx
  have HD2 := Lib.hid hd
  have HB2 := Lib.hid hb
  clear hx hd hb K1
  go_wp2_with fail
  refine (HCY.out _ (HR.out.below HB2.out)).mono ?_
  rintro e w2 ⟨rfl, hb2⟩
  have HD3 := Lib.hid (HD2.out.below hb2 HD2.out.lt)
  have HB3 := Lib.hid (HB2.out.trans (hb2.mono HB2.out.size))
  have HX3 := Lib.hid (HXB.out.below hb2 HXB.out.lt)
  have hlt2 := HX3.out.lt
  clear hb2
  have K2 := Lib.hid (fun (O : Obj) (hO : O = .cells (cellsOf zs32).toArray 31 (0, 0)) => show Brow ((w2.alloc O).setRow w2.heap.size (cellsOf Y).toArray) w2.heap.size 31 Y ∧ Brow ((w2.alloc O).setRow w2.heap.size (cellsOf Y).toArray) w1.heap.size 31 X ∧ Brow ((w2.alloc O).setRow w2.heap.size (cellsOf Y).toArray) w.heap.size 31 zs32 ∧ Below w.heap.size w ((w2.alloc O).setRow w2.heap.size (cellsOf Y).toArray) from by
    subst hO
    have hb : Below w2.heap.size w2 ((w2.alloc (.cells (cellsOf zs32).toArray 31 (0, 0))).setRow w2.heap.size (cellsOf Y).toArray) := ((Below.refl _ _).alloc (Nat.le_refl _) _).setRow (Nat.le_refl _) _
    exact ⟨(Brow.new w2 31 zs32).setRow, HX3.out.below hb HX3.out.lt, HD3.out.below hb HD3.out.lt, HB3.out.trans (hb.mono HB3.out.size)⟩)
  go_upto_region 8 with (first | (refine wpList_store_row (by rfl) 31 _ _ (by rfl) w2.heap.size (cellsOf Y).toArray (by rfl) (by rfl) 31 (cellsOf zs32).toArray (by exact heap_new _ _) HIY.out HZY.out (cellsOf_all _) ?_))
  refine gen_code (F := fun W => Brow W w2.heap.size 31 Y ∧ Brow W w1.heap.size 31 X ∧ Brow W w.heap.size 31 zs32 ∧ Below w.heap.size w W) (K2.out _ rfl) ?_
  rintro wC ⟨hy, hx, hd, hb⟩
  have HY4 := Lib.hid hy
  have HX4 := Lib.hid hx
  have HD4 := Lib.hid hd
  have HB4 := Lib.hid hb
  clear hy hx hd hb K2
  go_wp2_with (first | (refine wpList_load_row (by rfl) 31 _ (by rfl) w1.heap.size (by rfl) _ (cellsOf X).toArray (0, 0) _ HX4.out Tryd.underlying31 (by rfl) HIX.out ?_) | (refine wpList_load_row (by rfl) 31 _ (by rfl) w2.heap.size (by rfl) _ (cellsOf Y).toArray (0, 0) _ HY4.out Tryd.underlying31 (by rfl) HIY.out ?_))
  refine (HNODE.out _).mono ?_
  rintro e w3 ⟨rfl, hb3⟩
  have HD5 := Lib.hid (HD4.out.below hb3 HD4.out.lt)
  have HB5 := Lib.hid (HB4.out.trans (hb3.mono HB4.out.size))
  have HI := Lib.hid (info32 dtR HS.out)
  have HZ := Lib.hid (zsize HS.out)
  clear hb3
  go_wp2_with (first | (refine wpList_store_row (by rfl) 31 _ _ (by rfl) w.heap.size (cellsOf S).toArray (by rfl) (by rfl) 31 (cellsOf zs32).toArray HD5.out HI.out HZ.out (cellsOf_all _) ?_))
  refine bodyPost_ret (results_cell_row (by rfl) _ _ w.heap.size _ (cellsOf S).toArray (0, 0) _ (by rfl) HD5.out.setRow Tryd.underlying31 (by rfl) HI.out) ?_ ?_
  · rfl
  · exact ⟨rfl, HB5.out.setRow (by omega) _⟩
theorem rroot_c : ∀ (n : Nat) (ds : Ds) (a : Option Addr) (cap : Nat) (w : World), DR w a n ds → n ≤ cap → cap ≤ 9223372036854775807 →
    Calls Tryd.prog 12 #[.slice a n cap] w (DigRet (rootS ds) w) := by
  intro n
  induction n using Nat.strongRecOn with
  | ind n ih =>
    intro ds a cap w hr hlc hcm
    by_cases h0 : n = 0
    · subst h0
      rw [hr.zero, rootS_nil]
      exact rroot_0 a cap w
    · by_cases h1 : n = 1
      · subst h1
        obtain ⟨d, rfl⟩ := List.length_eq_one_iff.1 hr.1
        obtain ⟨b, o, rfl, hb, hc⟩ := hr.at 0 (by omega)
        rw [rootS_one]
        exact rroot_1 b o cap d w (hr.2.1 d (by simp)) hb (by simpa using hc)
      · exact rroot_2 n _ ih ds a cap w hr hlc hcm (by omega) rfl
end Go.Proofs.YtlnblfdddellmaaDoor
