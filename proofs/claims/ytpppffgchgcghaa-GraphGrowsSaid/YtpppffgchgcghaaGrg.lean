/-
  Sums in their order: the comparison, told to the world; the library's sort at a row of sums.
-/
import Derived.Test.YtpppffgchgcghaaGrf
import Derived.Test.YtpppffgchgcghaaSrt
import Derived.Sort.OwnSorted
namespace Go.Proofs.Ytpppffgchgcghaa
open Go.RowKit Go.Maps Go.Sort Go.Lib
set_option linter.unusedVariables false
theorem grow_drew (w : World) (os : Array Obj) : (grow w os).drew = grow (w.drewN 1) os := rfl
set_option maxRecDepth 100000 in
theorem cmpx_c (xs ys : List Nat) (w : World) (hx : D32 xs) (hy : D32 ys) :
    Calls Try.prog 37 #[.agg (cellsOf xs).toArray, .agg (cellsOf ys).toArray] w fun e w' => e = .returned (.int .i64 (lexc xs ys)) ∧ ∃ q os, w' = grow (w.drewN q) os := by
  have lx := hx.1
  have ly := hy.1
  have bx := hx.2
  have by_ := hy.2
  have HDA := fun W g => run_digAll W g 0
  go_enter Try.func37, Try.ntmps37
  go_wp2_with fail
  refine gen_code (F := fun W => Brow W w.heap.size 42 xs ∧ Brow W (w.heap.size + 1) 42 ys ∧ ∃ os, W = grow w os) ⟨(heap_new2 _ _ _).1, (heap_new2 _ _ _).2, _, by rw [alloc_eq_grow, alloc_eq_grow, grow_grow]⟩ ?_
  rintro wA ⟨hx, hy, hw⟩
  have hrx := hx.rd bx
  have hry := hy.rd by_
  rw [lx] at hrx
  rw [ly] at hry
  have HC := Lib.hid (bcmp_c (some ⟨w.heap.size, 0, none⟩) (some ⟨w.heap.size + 1, 0, none⟩) 32 32 32 32 xs ys wA.drew hrx.drew hry.drew)
  have HW := Lib.hid hw
  clear hx hy hw hrx hry
  refine wp_region_any (by kernel_rfl) ?_
  change wpAny _ _ _ _ _ _ _ wA.drew
  refine any_pure 0 (d := 5) (op := .slice 42 (.tmp 2) none none none) (.slice (some ⟨w.heap.size, 0, none⟩) 32 32) (by rfl) (by kernel_rfl) (by kernel_rfl) (by kernel_rfl) (fun _ _ _ h => h) (fun o ho W => by unfold execOp; simp only [ho]; simp [HDA W, Act.eval]) ?_
  simp only [Act.put, List.setIfInBounds_toArray, List.set_cons_zero, List.set_cons_succ]
  refine any_pure 1 (d := 6) (op := .slice 42 (.tmp 3) none none none) (.slice (some ⟨w.heap.size + 1, 0, none⟩) 32 32) (by rfl) (by kernel_rfl) (by kernel_rfl) (by kernel_rfl) (fun _ _ _ h => h) (fun o ho W => by unfold execOp; simp only [ho]; simp [HDA W, Act.eval]) ?_
  simp only [Act.put, List.setIfInBounds_toArray, List.set_cons_zero, List.set_cons_succ]
  refine any_call 2 (d := some 7) (f := 45) (xs := #[.tmp 5, .tmp 6]) (ts := #[33, 33]) (vs := #[.slice (some ⟨w.heap.size, 0, none⟩) 32 32, .slice (some ⟨w.heap.size + 1, 0, none⟩) 32 32]) (by kernel_rfl) (by rfl) (by go_simp) (by go_simp) HC.out ?_
  rintro e1 w1 ⟨rfl, rfl⟩
  refine ⟨_, rfl, ?_⟩
  simp only [Act.put, List.setIfInBounds_toArray, List.set_cons_zero, List.set_cons_succ]
  refine any_pure 3 (d := 4) (op := .assign (.tmp 7)) (.int .i64 (lexc xs ys)) (by rfl) (by kernel_rfl) (by kernel_rfl) (by kernel_rfl) (fun _ _ _ h => h) (fun o ho W => by unfold execOp; simp only [ho]; go_simp) ?_
  simp only [Act.put, List.setIfInBounds_toArray, List.set_cons_zero, List.set_cons_succ]
  refine wpAny_done (by kernel_rfl) ?_ _
  go_wp2
  go_ret
  obtain ⟨os, hos⟩ := HW.out
  exact ⟨rfl, 1, os, by rw [hos]; rfl⟩
/-- a sum, as an element of the library's sort -/
abbrev Dg := { xs : List Nat // D32 xs }
theorem d32_zero : D32 (List.replicate 32 0) := ⟨by simp, fun z hz => by rw [List.eq_of_mem_replicate hz]; omega⟩
instance dgInh : Inhabited Dg := ⟨⟨List.replicate 32 0, d32_zero⟩⟩
def encD (x : Dg) : List Value := cellsOf x.1
def cfD (x y : Dg) : Int := lexc x.1 y.1
theorem ltD (x y : Dg) : ltOf cfD x y = decide (lexc x.1 y.1 < 0) := rfl
theorem swoD : SWO (ltOf cfD) where
  irrefl x := by rw [ltD, lexc_self]; rfl
  trans x y z h1 h2 := by
    rw [ltD] at *
    simp only [decide_eq_true_eq] at *
    have h3 := lexc_trans x.1 y.1 z.1 (by omega) (by omega)
    by_cases e : lexc x.1 z.1 = 0
    · have e2 := (lexc_zero _ _).1 e
      rw [e2, lexc_anti] at h1
      omega
    · omega
  ntrans x y z h1 h2 := by
    rw [ltD] at *
    simp only [decide_eq_false_iff_not, Int.not_lt] at *
    have h3 := lexc_trans z.1 y.1 x.1 (by rw [lexc_anti]; omega) (by rw [lexc_anti]; omega)
    rw [lexc_anti]
    omega
theorem totD (x y : Dg) (h1 : ltOf cfD x y = false) (h2 : ltOf cfD y x = false) : x = y := by
  rw [ltD] at *
  simp only [decide_eq_false_iff_not, Int.not_lt] at *
  rw [lexc_anti] at h2
  exact Subtype.ext ((lexc_zero _ _).1 (by omega))
/-- sums in their order -/
def sortS (ds : Ds) : Ds := ds.mergeSort fun x y => !decide (lexc y x < 0)
theorem sortS_perm (ds : Ds) : (sortS ds).Perm ds := List.mergeSort_perm _ _
theorem sortS_len (ds : Ds) : (sortS ds).length = ds.length := (sortS_perm ds).length_eq
def dgs (ds : Ds) (h : ∀ d ∈ ds, D32 d) : List Dg := ds.pmap (fun x hx => ⟨x, hx⟩) h
theorem dgs_val (ds : Ds) (h : ∀ d ∈ ds, D32 d) : (dgs ds h).map (fun x => x.1) = ds := by
  unfold dgs
  rw [List.map_pmap]
  simp
theorem dgs_len (ds : Ds) (h : ∀ d ∈ ds, D32 d) : (dgs ds h).length = ds.length := by simp [dgs]
theorem sort_val (L : List Dg) : (L.mergeSort fun x y => !(ltOf cfD) y x).map (fun x => x.1) = sortS (L.map (fun x => x.1)) := by
  unfold sortS
  exact List.map_mergeSort fun a _ b _ => rfl
theorem flatK_cells (L : List Dg) : (flatK encD 32 L.toArray).toList = cellsOf (L.map (fun x => x.1)).flatten := by
  have hD : ∀ d ∈ L.map (fun x : Dg => x.1), D32 d := fun d hd => by
    obtain ⟨x, -, rfl⟩ := List.mem_map.1 hd
    exact x.2
  have hlen := flat_len _ hD
  rw [List.length_map] at hlen
  apply List.ext_getElem
  · rw [Array.length_toList, size_flatK, cellsOf_length, hlen, List.size_toArray]
    omega
  · intro t h1 h2
    rw [Array.length_toList, size_flatK, List.size_toArray] at h1
    have hq : t / 32 < L.length := by omega
    have hr : t % 32 < 32 := Nat.mod_lt _ (by omega)
    have e1 : (flatK encD 32 L.toArray).toList[t] = (flatK encD 32 L.toArray)[t]! := by
      rw [Array.getElem_toList, getElem!_pos _ t (by rw [size_flatK, List.size_toArray]; exact h1)]
    have e2 := get_flatK encD 32 L.toArray t (by rw [List.size_toArray]; exact h1)
    have e3 : L.toArray[t / 32]! = L[t / 32] := by
      rw [getElem!_pos _ _ (by rw [List.size_toArray]; exact hq)]
      simp
    have hxl : (L[t / 32]).1.length = 32 := (L[t / 32]).2.1
    have e4 : (encD L[t / 32])[t % 32]! = .int .u8 (((L[t / 32]).1.getD (t % 32) 0 : Nat) : Int) := by
      rw [getElem!_pos _ _ (by unfold encD; rw [cellsOf_length, hxl]; exact hr)]
      have := cellsOf_get (L[t / 32]).1 (t % 32) (by rw [hxl]; exact hr)
      exact (List.getElem?_eq_some_iff.1 this).2
    have e5 := (List.getElem?_eq_some_iff.1 (cellsOf_get (L.map (fun x : Dg => x.1)).flatten t (by rw [hlen]; omega))).2
    have e6 := flat_get _ hD (t / 32) (t % 32) (by rw [List.length_map]; exact hq) hr
    rw [e1, e2, e3, e4, e5]
    congr 2
    rw [show 32 * (t / 32) + t % 32 = t from Nat.div_add_mod t 32] at e6
    have e7 : (L.map (fun x : Dg => x.1)).getD (t / 32) [] = (L[t / 32]).1 := by rw [List.getD_eq_getElem?_getD, List.getElem?_map, List.getElem?_eq_getElem hq]; rfl
    rw [e6, e7]
theorem heap_srt {w : World} {g n : Nat} {os : Array Obj} {cur : Array Value} {e : TypeId} {fr : Nat × Nat} (d : Array Dg) (hb : w.heap[g]? = some (.cells cur e fr)) :
    (sortWorldK encD 32 w g 0 n d os).heap[g]? = some (.cells (putCells id 0 (flatK encD 32 d) cur) e fr) := by
  have hg : g < w.heap.size := (Array.getElem?_eq_some_iff.1 hb).1
  unfold sortWorldK putRowK
  rw [heap_grow_old _ _ (by simpa using hg)]
  simp [putRow, mapBlock, Sort.ahead, Array.getElem?_modify, hb, onCells]
theorem grown_srt {w : World} {g n : Nat} {os : Array Obj} (d : Array Dg) : w.grownBy (sortWorldK encD 32 w g 0 n d os) (some g) := by
  refine ⟨rfl, rfl, rfl, by simp [sortWorldK, putRowK], fun k hk hne => ?_⟩
  unfold sortWorldK putRowK
  rw [heap_grow_old _ _ (by simpa using hk)]
  have : g ≠ k := fun e => hne (by rw [e])
  simp [putRow, mapBlock, Sort.ahead, Array.getElem?_modify, this]
theorem take_put (cur F : Array Value) (h : F.size ≤ cur.size) : (putCells id 0 F cur).toList.take F.size = F.toList := by
  apply List.ext_getElem?
  intro j
  by_cases hj : j < F.size
  · rw [List.getElem?_take_of_lt hj, Array.getElem?_toList]
    simp [putCells, hj, show j < cur.size by omega]
  · rw [List.getElem?_take_eq_none (by omega), List.getElem?_eq_none (by rw [Array.length_toList]; omega)]
/-- the library's sort, at sums that the call owns -/
theorem sortd_c {w : World} {B : Nat} {a : Option Addr} {n cap : Nat} {ds : Ds} (h : OwE w B (.slice a n cap) ds) (hd : ∀ d ∈ ds, D32 d) (hl : ds.length ≤ 1000000000) :
    Calls Try.prog 44 #[.slice a n cap, .func (.func 37) #[] #[]] w fun e w' => e = .returned (.tuple #[]) ∧ OwE w' B (.slice a n cap) (sortS ds) ∧ w.grownBy w' (Value.slice a n cap).ownBlock := by
  rcases h.2 with ⟨e, h0⟩ | ⟨g, cap', cur, e, hbase, hb, h1, h2, h3, h4⟩
  · cases e
    have hds : ds = [] := List.eq_nil_of_length_eq_zero h0
    subst hds
    have := AnyF.slices_SortFunc_none sortD none 0 (.func (.func 37) #[] #[]) w
    refine Calls.mono this ?_
    rintro e w' ⟨rfl, rfl⟩
    exact ⟨rfl, by simpa [sortS] using h, ⟨rfl, rfl, rfl, Nat.le_refl _, fun _ _ _ => rfl⟩⟩
  · cases e
    have hgl := (Array.getElem?_eq_some_iff.1 hb).1
    have hlD := dgs_len ds hd
    have hF := flatK_cells (dgs ds hd)
    rw [dgs_val] at hF
    have hFs : (flatK encD 32 (dgs ds hd).toArray).size = ds.length * 32 := by rw [size_flatK, List.size_toArray, hlD]
    have hH : HoldsK encD 32 w g 0 (dgs ds hd).toArray := fun j hj => by
      rw [hFs] at hj
      refine ⟨?_, frozen_of_row w g _ _ _ hb⟩
      have hc : (cellsOf ds.flatten)[j]? = (flatK encD 32 (dgs ds hd).toArray)[j]? := by rw [← hF, Array.getElem?_toList]
      rw [← h4, List.getElem?_take, if_pos hj] at hc
      rw [cell_of_row w g _ _ _ _ hb, Nat.zero_add, ← Array.getElem?_toList, hc, Array.getElem?_eq_getElem (by rw [hFs]; exact hj), getElem!_pos _ j (by rw [hFs]; exact hj)]
      rfl
    have hcon := AnyQ.slices_SortFunc_total sortD 32 (fun w => by kernel_rfl) (fun w => by kernel_rfl) encD (fun x => by unfold encD; rw [cellsOf_length, x.2.1]) (fun x => cellsOf_one x.1) cfD swoD 37 #[] g 0 cap (dgs ds hd).toArray w (enters_of Try.func37 (by kernel_rfl) rfl) (fun m os dk _ x y => cmpx_c x.1 y.1 _ x.2 y.2) hH hgl (by rw [List.size_toArray, hlD]; omega) totD
    rw [List.size_toArray, hlD] at hcon
    refine Calls.mono hcon ?_
    rintro e w' ⟨rfl, q, os, rfl⟩
    have hls : ((dgs ds hd).mergeSort fun x y => !(ltOf cfD) y x).length = ds.length := by rw [List.length_mergeSort, hlD]
    have hF2 := flatK_cells ((dgs ds hd).mergeSort fun x y => !(ltOf cfD) y x)
    rw [sort_val, dgs_val] at hF2
    have hF2s : (flatK encD 32 ((dgs ds hd).mergeSort fun x y => !(ltOf cfD) y x).toArray).size = ds.length * 32 := by rw [size_flatK, List.size_toArray, hls]
    refine ⟨rfl, ⟨?_, .inr ⟨g, cap, _, by rw [sortS_len], hbase, heap_srt _ hb, by rw [sortS_len]; exact h1, h2, by simp [putCells, h3], ?_⟩⟩, grown_srt _⟩
    · rw [cellsOf_length, flat_len _ (fun d hd2 => hd d ((sortS_perm ds).mem_iff.1 hd2))]
      omega
    · rw [sortS_len, ← hF2, ← hF2s]
      refine take_put cur _ ?_
      rw [hF2s, h3]
      exact Nat.mul_le_mul_right _ h1
end Go.Proofs.Ytpppffgchgcghaa
