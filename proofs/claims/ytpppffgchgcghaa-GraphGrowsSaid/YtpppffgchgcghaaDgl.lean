/-
  Lists of sums in memory: reading, cutting, owning, appending.
-/
import Derived.Test.YtpppffgchgcghaaPkc
import Derived.Test.YtpppffgchgcghaaPkb
import Derived.Great.Walk
namespace Go.Proofs.Ytpppffgchgcghaa
open Go.RowKit
set_option linter.unusedVariables false

abbrev Ds := List (List Nat)
theorem flat_len (ds : Ds) (h : ∀ d ∈ ds, D32 d) : ds.flatten.length = 32 * ds.length := by
  induction ds with
  | nil => rfl
  | cons d ds ih =>
    rw [List.flatten_cons, List.length_append, ih (fun x hx => h x (List.mem_cons_of_mem _ hx)), (h d (List.mem_cons_self ..)).1, List.length_cons]
    omega
theorem flat_take (ds : Ds) (h : ∀ d ∈ ds, D32 d) (k : Nat) : (ds.take k).flatten = ds.flatten.take (32 * k) := by
  induction ds generalizing k with
  | nil => simp
  | cons d ds ih =>
    have hd := (h d (List.mem_cons_self ..)).1
    cases k with
    | zero => simp
    | succ k =>
      rw [List.take_succ_cons, List.flatten_cons, List.flatten_cons, ih (fun x hx => h x (List.mem_cons_of_mem _ hx)), List.take_append, List.take_of_length_le (l := d) (by omega), hd]
      rfl
theorem flat_drop (ds : Ds) (h : ∀ d ∈ ds, D32 d) (k : Nat) : (ds.drop k).flatten = ds.flatten.drop (32 * k) := by
  induction ds generalizing k with
  | nil => simp
  | cons d ds ih =>
    have hd := (h d (List.mem_cons_self ..)).1
    cases k with
    | zero => simp
    | succ k =>
      rw [List.drop_succ_cons, List.flatten_cons, ih (fun x hx => h x (List.mem_cons_of_mem _ hx)), List.drop_append, List.drop_eq_nil_of_le (show d.length ≤ 32 * (k + 1) by omega), hd, List.nil_append]
      rfl
theorem d32_take {ds : Ds} (h : ∀ d ∈ ds, D32 d) (k : Nat) : ∀ d ∈ ds.take k, D32 d := fun d hd => h d (List.mem_of_mem_take hd)
theorem d32_drop {ds : Ds} (h : ∀ d ∈ ds, D32 d) (k : Nat) : ∀ d ∈ ds.drop k, D32 d := fun d hd => h d (List.mem_of_mem_drop hd)
theorem flat_get (ds : Ds) (h : ∀ d ∈ ds, D32 d) (i j : Nat) (hi : i < ds.length) (hj : j < 32) : ds.flatten.getD (32 * i + j) 0 = (ds.getD i []).getD j 0 := by
  induction ds generalizing i with
  | nil => simp at hi
  | cons d ds ih =>
    have hd := (h d (List.mem_cons_self ..)).1
    cases i with
    | zero =>
      rw [List.flatten_cons, Nat.mul_zero, Nat.zero_add, List.getD_cons_zero]
      simp only [List.getD_eq_getElem?_getD]
      rw [List.getElem?_append_left (by omega)]
    | succ i =>
      rw [List.flatten_cons, List.getD_cons_succ, ← ih (fun x hx => h x (List.mem_cons_of_mem _ hx)) i (by simpa using hi)]
      simp only [List.getD_eq_getElem?_getD]
      rw [List.getElem?_append_right (by omega)]
      congr 2
      omega
theorem D32.get {ds : Ds} (h : ∀ d ∈ ds, D32 d) (i : Nat) (hi : i < ds.length) : D32 (ds.getD i []) := by
  rw [List.getD_eq_getElem?_getD, List.getElem?_eq_getElem hi]
  exact h _ (List.getElem_mem _)

/-- what a list of sums is to the program -/
structure DT (T E : TypeId) : Prop where
  und : Try.prog.underlying T = some (.slice E)
  elem : Try.prog.elem T = E
  undE : Try.prog.underlying E = some (.array 32 5)
  size : (Try.prog.info? E).map (·.size) = some 32
  row : (Try.prog.info? E).map (fun i => (i.zero.map (·.cells.size), i.size, i.bytes)) = some (some 32, 32, 32)
  one : ∀ v : Array Value, v.size = 32 → Try.prog.builtSlice E 1 [(0, .agg v)] = some v
theorem DT.info {T E : TypeId} (h : DT T E) : ∃ i z, Try.prog.info? E = some i ∧ i.zero = some z ∧ i.size = 32 ∧ i.bytes = 32 ∧ z.cells.size = 32 := by
  have hr := h.row
  cases hi : Try.prog.info? E with
  | none => simp [hi] at hr
  | some i =>
    simp only [hi, Option.map_some, Option.some.injEq, Prod.mk.injEq] at hr
    obtain ⟨h1, h2, h3⟩ := hr
    obtain ⟨z, hz, hs⟩ := Option.map_eq_some_iff.1 h1
    exact ⟨i, z, rfl, hz, h2, h3, hs⟩
theorem built_one {E : TypeId} (hr : (Try.prog.info? E).map (fun i => (i.zero.map (·.cells.size), i.size, i.bytes)) = some (some 32, 32, 32)) (v : Array Value) (hv : v.size = 32) : Try.prog.builtSlice E 1 [(0, .agg v)] = some v := by
  unfold Program.builtSlice
  cases hi : Try.prog.info? E with
  | none => simp [hi] at hr
  | some i =>
    simp only [hi, Option.map_some, Option.some.injEq, Prod.mk.injEq] at hr
    obtain ⟨h1, h2, h3⟩ := hr
    obtain ⟨z, hz, hs⟩ := Option.map_eq_some_iff.1 h1
    simp only [hz, h2]
    have := Great.fill_whole (s := 32) (by omega) [.agg v] ((Array.range (1 * 32)).map (z.cells[· % z.cells.size]!)) (by simpa [Value.cells] using hv) (by simp)
    have e : ([Value.agg v].flatMap fun v => v.cells.toList).toArray = v := by simp [Value.cells]
    rw [e] at this
    rw [if_neg (by omega)]
    exact this
theorem row_r : (Try.prog.info? 41).map (fun i => (i.zero.map (·.cells.size), i.size, i.bytes)) = some (some 32, 32, 32) := by kernel_rfl
theorem row_a : (Try.prog.info? 42).map (fun i => (i.zero.map (·.cells.size), i.size, i.bytes)) = some (some 32, 32, 32) := by kernel_rfl
theorem dtR : DT 28 41 := ⟨Try.underlying28, by kernel_rfl, Try.underlying41, by kernel_rfl, row_r, built_one row_r⟩
theorem dtA : DT 38 42 := ⟨Try.underlying38, by kernel_rfl, Try.underlying42, by kernel_rfl, row_a, built_one row_a⟩

/-- the slice at a, of n sums, reads as ds -/
def DR (w : World) (a : Option Addr) (n : Nat) (ds : Ds) : Prop := ds.length = n ∧ (∀ d ∈ ds, D32 d) ∧ Rd w a (32 * n) ds.flatten
theorem DR.len {w : World} {a : Option Addr} {n : Nat} {ds : Ds} (h : DR w a n ds) : ds.length = n := h.1
theorem DR.below {w w' : World} {a : Option Addr} {n : Nat} {ds : Ds} (h : DR w a n ds) (hb : Below w.heap.size w w') : DR w' a n ds := ⟨h.1, h.2.1, h.2.2.below hb⟩
theorem DR.nil (w : World) : DR w none 0 [] := ⟨rfl, by simp, rfl, by simp, .inl rfl⟩
theorem DR.zero {w : World} {a : Option Addr} {ds : Ds} (h : DR w a 0 ds) : ds = [] := List.eq_nil_of_length_eq_zero h.1
theorem DR.empty (w : World) (a : Option Addr) : DR w a 0 [] := ⟨rfl, by simp, rfl, by simp, .inl rfl⟩
theorem Rd.head {w : World} {a : Option Addr} {len : Nat} {zs : List Nat} (h : Rd w a len zs) (m : Nat) (hm : m ≤ len) : Rd w a m (zs.take m) := by
  obtain ⟨h1, h2, h3⟩ := h
  refine ⟨by rw [List.length_take]; omega, fun z hz => h2 z (List.mem_of_mem_take hz), ?_⟩
  by_cases h0 : m = 0
  · exact .inl h0
  · rcases h3 with h3 | ⟨b, off, rfl, hb, hc⟩
    · omega
    · refine .inr ⟨b, off, rfl, hb, fun i hi => ?_⟩
      rw [hc i (by omega)]
      simp only [List.getD_eq_getElem?_getD, List.getElem?_take, if_pos hi]
theorem DR.take {w : World} {a : Option Addr} {n : Nat} {ds : Ds} (h : DR w a n ds) (k : Nat) (hk : k ≤ n) : DR w a k (ds.take k) := by
  refine ⟨by rw [List.length_take, h.1]; omega, d32_take h.2.1 k, ?_⟩
  rw [flat_take ds h.2.1]
  exact h.2.2.head (32 * k) (by omega)
/-- where the sums from k on lie -/
def sld (a : Option Addr) (cap k : Nat) : Option Addr := if cap = k then a else a.map (·.add (k * 32))
theorem sld_sla (a : Option Addr) (cap k : Nat) : sld a cap k = sla a (32 * cap) (32 * k) := by
  unfold sld sla
  by_cases h : cap = k
  · rw [if_pos h, if_pos (by omega)]
  · rw [if_neg h, if_neg (by omega), Nat.mul_comm]
theorem DR.drop {w : World} {a : Option Addr} {n : Nat} {ds : Ds} (h : DR w a n ds) (cap k : Nat) (hk : k ≤ n) (hc : n ≤ cap) : DR w (sld a cap k) (n - k) (ds.drop k) := by
  refine ⟨by rw [List.length_drop, h.1], d32_drop h.2.1 k, ?_⟩
  rw [flat_drop ds h.2.1, sld_sla, Nat.mul_sub]
  exact h.2.2.cut (32 * cap) (32 * k) (by omega) (by omega)
theorem sld_none {a : Option Addr} {cap k : Nat} (h : a = none → cap = 0) : sld a cap k = none → cap - k = 0 := by
  intro hs
  have : a = none := by
    unfold sld at hs
    split at hs
    · exact hs
    · cases a <;> simp_all
  have := h this
  omega
theorem DR.at {w : World} {a : Option Addr} {n : Nat} {ds : Ds} (h : DR w a n ds) (i : Nat) (hi : i < n) : ∃ b o, a = some ⟨b, o, none⟩ ∧ b < w.heap.size ∧ w.rangeAt b (o + i * 32) (cellsOf (ds.getD i [])) := by
  obtain ⟨h1, h2, h3, h4, h5⟩ := h
  rcases h5 with h5 | ⟨b, o, rfl, hb, hc⟩
  · omega
  · refine ⟨b, o, rfl, hb, fun j v hv => ?_⟩
    have hd := (D32.get h2 i (by omega)).1
    have hj : j < 32 := by
      have := (List.getElem?_eq_some_iff.1 hv).1
      rw [cellsOf_length] at this
      omega
    rw [cellsOf_get _ _ (by omega)] at hv
    cases hv
    rw [Nat.add_assoc, hc (i * 32 + j) (by omega), ← flat_get ds h2 i j (by omega) hj, Nat.mul_comm i 32]
theorem sized (T E : TypeId) (h : DT T E) (W : World) : (Go.sizeOf E).run Try.prog W = .ok 32 W := by
  obtain ⟨i, z, hi, _, h2, _, _⟩ := h.info
  simp [Go.sizeOf, typeInfo, hi, h2]
/-- l[:k] -/
theorem run_dhead {T E : TypeId} (h : DT T E) (W : World) (a : Option Addr) (len cap k : Nat) (hk : k ≤ cap) :
    (Instr.slice T (.slice a len cap) none (some (.int .i64 (k : Int))) none).run Try.prog W = .ok (.slice a k cap) W := by
  have hu := h.und
  rw [← h.elem] at hu
  rw [run_slice_h W _ a len cap hu .i64 (k : Int) (by omega) (by omega), h.elem, sized T E h]
  simp [Result.andThen, sliced, add_zero']
/-- l[k:] -/
theorem run_dcut {T E : TypeId} (h : DT T E) (W : World) (a : Option Addr) (len cap k : Nat) (hk : k ≤ len) :
    (Instr.slice T (.slice a len cap) (some (.int .i64 (k : Int))) none none).run Try.prog W = .ok (.slice (sld a cap k) (len - k) (cap - k)) W := by
  have hu := h.und
  rw [← h.elem] at hu
  rw [run_slice_l W _ a len cap hu .i64 (k : Int) (by omega) (by omega), h.elem, sized T E h]
  simp [Result.andThen, sliced, sld]
theorem run_dheadAt {T E : TypeId} (h : DT T E) (W : World) (a : Option Addr) (len cap k : Nat) (hk : k ≤ cap) :
    (Instr.sliceAt T (.slice a len cap) none (some (.int .i64 (k : Int))) none).run Try.prog W = .ok (.slice a k cap) W := by
  have hu := h.und
  rw [← h.elem] at hu
  rw [run_sliceAt_slice W _ _ _ _ _ hu]
  exact run_dhead h W a len cap k hk
theorem run_dcutAt {T E : TypeId} (h : DT T E) (W : World) (a : Option Addr) (len cap k : Nat) (hk : k ≤ len) :
    (Instr.sliceAt T (.slice a len cap) (some (.int .i64 (k : Int))) none none).run Try.prog W = .ok (.slice (sld a cap k) (len - k) (cap - k)) W := by
  have hu := h.und
  rw [← h.elem] at hu
  rw [run_sliceAt_slice W _ _ _ _ _ hu]
  exact run_dcut h W a len cap k hk
/-- l[i] -/
theorem run_dindex {T E : TypeId} (h : DT T E) (W : World) (b o len cap i : Nat) (hi : i < len) :
    (Instr.indexAt T (.slice (some ⟨b, o, none⟩) len cap) (.int .i64 (i : Int))).run Try.prog W = .ok (.pointer (some ⟨b, o + i * 32, none⟩)) W := by
  have hu := h.und
  rw [← h.elem] at hu
  rw [run_indexAt_slice W T ⟨b, o, none⟩ len cap .i64 (i : Int) hu, h.elem, sized T E h]
  have h1 : (0 : Int) ≤ (i : Int) ∧ (i : Int) < (len : Int) := by omega
  simp [Result.andThen, h1, Addr.add]
theorem run_dload {T E : TypeId} (h : DT T E) (W : World) (b o : Nat) (d : List Nat) (hd : D32 d) (hc : W.rangeAt b o (cellsOf d)) :
    (Instr.loadAt E (.pointer (some ⟨b, o, none⟩))).run Try.prog W = .ok (.agg (cellsOf d).toArray) W :=
  run_loadAt_mid W b o E (cellsOf d) _ hc h.undE rfl (by rw [cellsOf_length, hd.1]; exact h.size)

/-- sums that the call owns, from block B on -/
abbrev OwnD (w : World) (B : Nat) (E : TypeId) (v : Value) (ds : Ds) : Prop := w.ownsRow B E 32 v ds.length (cellsOf ds.flatten)
theorem OwnD.dr {w : World} {B : Nat} {E : TypeId} {v : Value} {ds : Ds} (h : OwnD w B E v ds) (hd : ∀ d ∈ ds, D32 d) : ∃ a cap, v = .slice a ds.length cap ∧ ds.length ≤ cap ∧ cap ≤ 9223372036854775807 ∧ (a = none → cap = 0) ∧ DR w a ds.length ds := by
  have hb : ∀ z ∈ ds.flatten, z < 256 := fun z hz => by
    obtain ⟨d, hd1, hd2⟩ := List.mem_flatten.1 hz
    exact (hd d hd1).2 z hd2
  rcases h.2 with ⟨rfl, hn⟩ | ⟨g, cap, cur, rfl, hbg, hg, hnc, hcm, hcs, htake⟩
  · refine ⟨none, 0, by rw [hn], by omega, by omega, fun _ => rfl, rfl, hd, by rw [flat_len ds hd], hb, .inl (by omega)⟩
  · refine ⟨_, cap, rfl, hnc, hcm, by simp, rfl, hd, by rw [flat_len ds hd], hb, .inr ⟨g, 0, rfl, (Array.getElem?_eq_some_iff.1 hg).1, fun i hi => ?_⟩⟩
    have hc := h.cells (g := g) rfl i _ (cellsOf_get ds.flatten i (by rw [flat_len ds hd]; exact hi))
    rw [show (⟨g, 0, none⟩ : Addr).add i = ⟨g, 0 + i, none⟩ by rw [Addr.add_mid]] at hc
    exact hc
theorem OwnD.nil (w : World) (B : Nat) (E : TypeId) : OwnD w B E (.slice none 0 0) [] := World.ownsRow_nil w B E 32
theorem OwnD.alloc {w : World} {B : Nat} {E : TypeId} {v : Value} {ds : Ds} (h : OwnD w B E v ds) (o : Obj) : OwnD (w.alloc o) B E v ds := World.ownsRow.alloc h o
theorem OwnD.block {w : World} {B : Nat} {E : TypeId} {v : Value} {ds : Ds} (h : OwnD w B E v ds) : ∀ k, v.ownBlock = some k → B ≤ k ∧ k < w.heap.size := World.ownsRow.lt h
theorem OwnD.below {w w' : World} {B B' : Nat} {E : TypeId} {v : Value} {ds : Ds} (h : OwnD w B E v ds) (hb : Below B' w w') (hB : w.heap.size ≤ B') : OwnD w' B E v ds := by
  refine ⟨h.1, ?_⟩
  rcases h.2 with hn | ⟨g, cap, cur, rfl, hbg, hg, rest⟩
  · exact .inl hn
  · have hlt := (Array.getElem?_eq_some_iff.1 hg).1
    exact .inr ⟨g, cap, cur, rfl, hbg, (hb.block g (by omega)).trans hg, rest⟩
theorem OwnD.base {w : World} {B B' : Nat} {E : TypeId} {v : Value} {ds : Ds} (h : OwnD w B E v ds) (hB : B' ≤ B) : OwnD w B' E v ds := by
  refine ⟨h.1, ?_⟩
  rcases h.2 with hn | ⟨g, cap, cur, rfl, hbg, rest⟩
  · exact .inl hn
  · exact .inr ⟨g, cap, cur, rfl, Nat.le_trans hB hbg, rest⟩
/-- what hands back new sums -/
def RetDs (E : TypeId) (ds : Ds) (w : World) (e : Ending) (w' : World) : Prop := ∃ v, e = .returned v ∧ OwnD w' w.heap.size E v ds ∧ Below w.heap.size w w'
theorem cellsOf_all1 (d : List Nat) : ∀ u ∈ cellsOf d, u.oneCell' = true := cellsOf_one d
/-- append(s, d) where the statement has laid d -/
theorem wp_dpush {T E : TypeId} (hT : DT T E) {w : World} {o : Oper} {a : Act} {K : Act → World → Prop} {Q : Exit → Act → World → Prop} (s x : Operand)
    (ho : o.op = .call { callee := .builtin .append, args := #[s, x], argTypes := #[T, T] })
    (B : Nat) (v : Value) (ds : Ds) (d : List Nat) (hd : D32 d) (hs : a.eval s = v) (hown : OwnD w B E v ds) (hB : B ≤ w.heap.size) (hx : a.eval x = .slice (some ⟨w.heap.size, 0, none⟩) 1 1)
    (hlen : ds.length + 1 ≤ 4398046511104)
    (h : ∀ v' w', OwnD w' B E v' (ds ++ [d]) → Below B w w' → K (a.put o.dst v') w') :
    o.wp Try.prog a (w.alloc (.cells (cellsOf d).toArray E)) K Q := by
  obtain ⟨i0, z, hi, hz0, hz1, hz2, hz3⟩ := hT.info
  refine wp_append_own _ s x T ho B E i0 z 32 32 hT.und hi hz0 hz1 hz2 hz3 (by decide) v ds.length (cellsOf ds.flatten) hs (hown.alloc _) ⟨w.heap.size, 0, none⟩ 1 1 (cellsOf d) hx (by rw [cellsOf_length, hd.1]) ?_ (cellsOf_one _) (by unfold maxLen; omega) (by omega) (by simp; omega) ?_
  · intro j u hj
    rw [Addr.add_mid, Nat.zero_add, cell_of_row _ _ _ _ _ _ (heap_new _ _)]
    simpa using hj
  · intro v' w' h1 h2 _
    refine h v' w' ?_ ?_
    · have e : (ds ++ [d]).length = ds.length + 1 := by simp
      unfold OwnD
      rw [e, List.flatten_append, List.flatten_cons, List.flatten_nil, List.append_nil, cellsOf_append]
      exact h1
    · exact ((Below.refl B w).alloc hB _).grown h2 (by simp; omega) fun k hk => (hown.block k hk).1
theorem wpList_dpush {T E : TypeId} (hT : DT T E) {w : World} {ops : Array Oper} {rest : List Oper} {o : Oper} {a : Act} {Q : Exit → Act → World → Prop} (hgd : o.guard = none) (s x : Operand)
    (ho : o.op = .call { callee := .builtin .append, args := #[s, x], argTypes := #[T, T] })
    (B : Nat) (v : Value) (ds : Ds) (d : List Nat) (hd : D32 d) (hs : a.eval s = v) (hown : OwnD w B E v ds) (hB : B ≤ w.heap.size) (hx : a.eval x = .slice (some ⟨w.heap.size, 0, none⟩) 1 1)
    (hlen : ds.length + 1 ≤ 4398046511104)
    (h : ∀ v' w', OwnD w' B E v' (ds ++ [d]) → Below B w w' → wpList Try.prog ops Q rest (a.put o.dst v') w') :
    wpList Try.prog ops Q (o :: rest) a (w.alloc (.cells (cellsOf d).toArray E)) :=
  wpList_plain hgd fun _ hK => wp_dpush hT s x ho B v ds d hd hs hown hB hx hlen fun v' w' h1 h2 => hK _ _ (h v' w' h1 h2)
theorem wpList_dlay {T E : TypeId} (hT : DT T E) {w : World} {ops : Array Oper} {rest : List Oper} {o : Oper} {a : Act} {Q : Exit → Act → World → Prop} (hgd : o.guard = none) (x : Operand) (ho : o.op = .buildSlice T 1 #[(0, x)])
    (N : Nat) (hN : w.heap.size = N) (dst : Option Tmp) (hdst : o.dst = dst) (d : List Nat) (hd : D32 d) (hx : a.eval x = .agg (cellsOf d).toArray)
    (h : wpList Try.prog ops Q rest (a.put dst (.slice (some ⟨N, 0, none⟩) 1 1)) (w.alloc (.cells (cellsOf d).toArray E))) : wpList Try.prog ops Q (o :: rest) a w :=
  Great.wpList_buildSliceTo hgd T E 1 _ ho N hN dst hdst hT.und (cellsOf d).toArray (by simp only [List.map_toArray, List.map_cons, List.map_nil, hx]; exact hT.one _ (by rw [cellsOf_size, hd.1])) h
/-- sums that came in -/
def DigsIn (W : World) (a : Option Addr) (n cap : Nat) (ds : Ds) : Prop := DR W a n ds ∧ (a = none → cap = 0) ∧ n ≤ cap ∧ cap ≤ 4398046510976
theorem OwnD.form {w : World} {B : Nat} {E : TypeId} {v : Value} {ds : Ds} (h : OwnD w B E v ds) (hd : ∀ d ∈ ds, D32 d) : ∃ a n cap, v = .slice a n cap ∧ ds.length = n ∧ n ≤ cap ∧ cap ≤ 9223372036854775807 ∧ (a = none → cap = 0) ∧ DR w a n ds := by
  obtain ⟨a, cap, h1, h2, h3, h4, h5⟩ := h.dr hd
  exact ⟨a, _, cap, h1, rfl, h2, h3, h4, h5⟩
end Go.Proofs.Ytpppffgchgcghaa
