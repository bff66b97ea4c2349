/-
  What is used of: Pka Pkb Jst Dkab Rgm Dcg Dkc Shf Dkd Dkfg Dkh Dkx Dkt Dkrv Dmab.
-/
import Derived.Test.YtihbgigledmliaaGreatProg
import Derived.Test.YtihbgigledmliaaGreatRows
import Derived.WalkKit
import Derived.WalkSpells
import Derived.WalkLawsBesides
import Derived.Lib.Hide
import Derived.Laws.BitsAllLaws
import Derived.Laws.AppendOwnNone
import Derived.BigQuiet
import Derived.Deep.QuietTactic
import Derived.Deep.MidRow
import Derived.Deep.RegionWith
import Derived.OrdersHeld
import Derived.Deep.RegionHeld
import Derived.RowKit
import Derived.Deep.RegionHeld3
import Derived.Deep.DrawnRows
import Derived.ProofKit
import Derived.OpenShut
import Derived.ShutString
import Derived.ChangeOld
import Derived.SizedLaws
import Derived.Laws.CopyOwn
import Derived.Laws.Rows
import Derived.Laws.Tables
import Derived.StillTailTactics
import Derived.Deep.CutRange
import Derived.Great.BuildSlice
import Derived.Maps.OwnSet
import Derived.RangeFuncFrom
import Derived.RangeFuncCalls
import Derived.RangeFuncLeaves
import Derived.OwnWalkIn
import Derived.TacticsInMore
import Derived.LoopNIn
import Derived.LoopIn
import Derived.Shelf.LaysM
import Derived.Shelf.Strconv.Clone
import Derived.Shelf.Sort.Plain
import Derived.Shelf.Strings.Prefix
import Derived.Shelf.Slices.In.SortNone
import Derived.Shelf.Bytes.SlEqualAll
import Derived.Shelf.Bytes.Small
import Derived.Maps.AppendAt
import Derived.Orders
import Derived.Sort.OwnSorted
import Derived.Maps.RangeWalk
import Derived.Lib.AppendZerosOnto
import Derived.Deep.Slices
import Derived.Deep.Fields
import Derived.Deep.Upon
import Derived.Lib.SlBytesConst
import Derived.Deep.CutBlock
namespace Go.Proofs.YtihbgigledmliaaGreat
open Go.RowKit
theorem ret_int {k : IntKind} {a b : Int} (h : a = b) : Ending.returned (.int k a) = .returned (.int k b) := by rw [h]
theorem ret_bool {a b : Bool} (h : a = b) : Ending.returned (.bool a) = .returned (.bool b) := by rw [h]
theorem getD_at (zs : List Nat) (k : Nat) (h : k < zs.length) : zs.getD k 0 = zs[k] := by simp [h]
/-- the cells of a list of bytes -/
def cellsOf (zs : List Nat) : List Value := zs.map fun z : Nat => Value.int .u8 (z : Int)
theorem cellsOf_length (zs : List Nat) : (cellsOf zs).length = zs.length := by simp [cellsOf]
theorem cellsOf_append (a b : List Nat) : cellsOf (a ++ b) = cellsOf a ++ cellsOf b := by simp [cellsOf]
theorem cellsOf_get (zs : List Nat) (i : Nat) (h : i < zs.length) : (cellsOf zs)[i]? = some (.int .u8 ((zs.getD i 0 : Nat) : Int)) := by
 simp [cellsOf, List.getElem?_map, List.getElem?_eq_getElem h]
theorem cellsOf_one (zs : List Nat) : ∀ u ∈ cellsOf zs, u.oneCell' = true := by
 intro u hu
 simp only [cellsOf, List.mem_map] at hu
 obtain ⟨z, _, rfl⟩ := hu
 rfl
/-- the slice at a, of len bytes, reads as zs -/
def Rd (w : World) (a : Option Addr) (len : Nat) (zs : List Nat) : Prop :=
 zs.length = len ∧ (∀ z ∈ zs, z < 256) ∧ (len = 0 ∨ ∃ b off, a = some ⟨b, off, none⟩ ∧ b < w.heap.size ∧ ∀ i, i < len → w.cell? ⟨b, off + i, none⟩ = some (.int .u8 ((zs.getD i 0 : Nat) : Int)))
theorem Rd.below {w w' : World} {a : Option Addr} {len : Nat} {zs : List Nat} (h : Rd w a len zs) (hb : Below w.heap.size w w') : Rd w' a len zs := by
 obtain ⟨h1, h2, h3⟩ := h
 refine ⟨h1, h2, ?_⟩
 rcases h3 with h0 | ⟨b, off, ha, hlt, hc⟩
 ·
  exact .inl h0
 ·
  exact .inr ⟨b, off, ha, Nat.lt_of_lt_of_le hlt hb.size, fun i hi => (hb.cell (p := ⟨b, off + i, none⟩) hlt).trans (hc i hi)⟩
theorem Rd.drewN {w : World} {n : Nat} {a : Option Addr} {len : Nat} {zs : List Nat} (h : Rd w a len zs) : Rd (w.drewN n) a len zs := h
theorem Rd.drew {w : World} {a : Option Addr} {len : Nat} {zs : List Nat} (h : Rd w a len zs) : Rd w.drew a len zs := h
/-- a row of bytes that the call owns, from block B on -/
abbrev Own (w : World) (B : Nat) (v : Value) (zs : List Nat) : Prop := w.ownsRow B 5 1 v zs.length (cellsOf zs)
theorem Own.rd {w : World} {B : Nat} {v : Value} {zs : List Nat} (h : Own w B v zs) (hz : ∀ z ∈ zs, z < 256) : ∃ a cap, v = .slice a zs.length cap ∧ zs.length ≤ cap ∧ cap ≤ 9223372036854775807 ∧ Rd w a zs.length zs := by
 have h' := h
 rcases h.2 with ⟨rfl, hn⟩ | ⟨g, cap, cur, rfl, hb, hg, hnc, hcm, hcs, htake⟩
 ·
  refine ⟨none, 0, by rw [hn], by omega, by omega, rfl, hz, .inl hn⟩
 ·
  refine ⟨_, cap, rfl, hnc, hcm, rfl, hz, .inr ⟨g, 0, rfl, (Array.getElem?_eq_some_iff.1 hg).1, fun i hi => ?_⟩⟩
  rw [h'.cellAt (0 + i) (by omega), Nat.zero_add]
  exact cellsOf_get zs i hi
/-- what hands back new bytes: they are owned, nothing that was there has turned -/
def RetB (B : Nat) (w : World) (zs : List Nat) (e : Ending) (w' : World) : Prop :=
 ∃ v, e = .returned v ∧ Own w' B v zs ∧ Below B w w'
/-- what computes alone, but draws -/
def RetD (v : Value) (w : World) (e : Ending) (w' : World) : Prop := e = .returned v ∧ ∃ n, w' = w.drewN n
theorem byteInfo : (Tryz.prog.info? 5).map (fun i => (i.zero, i.size, i.bytes)) = some (some (.int .u8 0), 1, 1) := by kernel_rfl
theorem take_snoc (zs : List Nat) (k : Nat) (h : k < zs.length) : zs.take (k + 1) = zs.take k ++ [zs[k]] := List.take_succ_eq_append_getElem h
/-- append(s, x) of one byte that the statement itself has laid -/
theorem wpList_push {w : World} {ops : Array Oper} {rest : List Oper} {o : Oper} {a : Act} {Q : Exit → Act → World → Prop} (hgd : o.guard = none) (s x : Operand)
  (ho : o.op = .call { callee := .builtin .append, args := #[s, x], argTypes := #[38, 38] })
  (B : Nat) (v : Value) (zs : List Nat) (z : Nat) (y : Int) (hy : y = (z : Int)) (hs : a.eval s = v) (hown : Own w B v zs) (hB : B ≤ w.heap.size) (hx : a.eval x = .slice (some ⟨w.heap.size, 0, none⟩) 1 1)
  (hlen : zs.length + 1 ≤ 140737488355328)
  (h : ∀ v' w', Own w' B v' (zs ++ [z]) → Below B w w' → wpList Tryz.prog ops Q rest (a.put o.dst v') w') :
  wpList Tryz.prog ops Q (o :: rest) a (w.alloc (.cells #[.int .u8 y] 5)) := by
 subst hy
 obtain ⟨i0, hi, hz0, hz1, hz2⟩ := info_parts byteInfo
 refine wpList_append_own _ hgd s x 38 ho B 5 i0 (.int .u8 0) 1 1 Tryz.underlying38 hi hz0 hz1 hz2 rfl (by decide) v zs.length (cellsOf zs) hs (hown.alloc _) ⟨w.heap.size, 0, none⟩ 1 1 (cellsOf [z]) hx rfl ?_ (cellsOf_one _) (by unfold maxLen; omega) (by omega) (by simp; omega) ?_
 ·
  intro j u hj
  match j, hj with
  | 0, hj => simp [cellsOf] at hj; subst hj; simp [Addr.add]
  | j + 1, hj => simp [cellsOf] at hj
 ·
  intro v' w' h1 h2 _
  refine h v' w' ?_ ?_
  ·
   have e : (zs ++ [z]).length = zs.length + 1 := by simp
   unfold Own
   rw [e, cellsOf_append]
   exact h1
  ·
   refine ((Below.refl B w).alloc hB _).grown h2 (by simp; omega) fun k hk => (hown.lt k hk).1
/-- append(s, p...) of bytes that can be read -/
theorem wpList_cat {w : World} {ops : Array Oper} {rest : List Oper} {o : Oper} {a : Act} {Q : Exit → Act → World → Prop} (hgd : o.guard = none) (s x : Operand)
  (ho : o.op = .call { callee := .builtin .append, args := #[s, x], argTypes := #[38, 38] })
  (B : Nat) (v : Value) (zs ys : List Nat) (hs : a.eval s = v) (hown : Own w B v zs) (hB : B ≤ w.heap.size) (ad : Option Addr) (len cap : Nat) (hx : a.eval x = .slice ad len cap)
  (hrd : Rd w ad len ys) (hnil : ad = none → cap = 0)
  (hlen : zs.length + ys.length ≤ 140737488355328)
  (h : ∀ v' w', Own w' B v' (zs ++ ys) → Below B w w' → wpList Tryz.prog ops Q rest (a.put o.dst v') w') :
  wpList Tryz.prog ops Q (o :: rest) a w := by
 obtain ⟨i0, hi, hz0, hz1, hz2⟩ := info_parts byteInfo
 obtain ⟨hl, hz, hc⟩ := hrd
 cases ad with
 | none =>
  obtain rfl := hnil rfl
  have h0 : len = 0 := by
   rcases hc with h0 | ⟨b, off, hb, _⟩
   ·
    exact h0
   ·
    cases hb
  subst h0
  obtain rfl : ys = [] := List.eq_nil_of_length_eq_zero hl
  refine wpList_append_own_none hgd s x 38 ho B 5 i0 1 Tryz.underlying38 hi v zs.length (cellsOf zs) hs hown hx ?_
  exact h v w (by rw [List.append_nil]; exact hown) (Below.refl _ _)
 | some ad =>
  refine wpList_append_own _ hgd s x 38 ho B 5 i0 (.int .u8 0) 1 1 Tryz.underlying38 hi hz0 hz1 hz2 rfl (by decide) v zs.length (cellsOf zs) hs hown ad len cap (cellsOf ys) hx (by rw [cellsOf_length, hl, Nat.mul_one]) ?_ (cellsOf_one _) (by unfold maxLen; omega) (by omega) hB ?_
  ·
   intro j u hj
   have hjl : j < ys.length := by
    have := (List.getElem?_eq_some_iff.1 hj).1
    rwa [cellsOf_length] at this
   rw [cellsOf_get ys j hjl] at hj
   cases hj
   rcases hc with h0 | ⟨b, off, hb, _, hcell⟩
   ·
    omega
   ·
    cases hb
    have hcj := hcell j (by omega)
    rw [show Addr.add ⟨b, off, none⟩ j = ⟨b, off + j, none⟩ by simp [Addr.add]]
    exact hcj
  ·
   intro v' w' h1 h2 _
   refine h v' w' ?_ ?_
   ·
    unfold Own
    rw [List.length_append, cellsOf_append, hl]
    exact h1
   ·
    exact (Below.refl B w).grown h2 hB fun k hk => (hown.lt k hk).1
/-- a text of such bytes -/
def str (zs : List Nat) : ByteArray := ⟨(zs.map UInt8.ofNat).toArray⟩
theorem foldl_push (ns : List Int) (s : ByteArray) : ns.foldl (fun r n => r.push (UInt8.ofNat n.toNat)) s = ⟨s.data ++ (ns.map fun n => UInt8.ofNat n.toNat).toArray⟩ := by
 induction ns generalizing s with
 | nil => simp
 | cons n ns ih => rw [List.foldl_cons, ih]; simp [ByteArray.push]
theorem run_str {w : World} {ad : Option Addr} {len cap : Nat} {zs : List Nat} (h : Rd w ad len zs) : (convert 38 9 (.slice ad len cap)).run Tryz.prog w = .ok (.string (str zs)) w := by
 obtain ⟨hl, hz, hc⟩ := h
 rw [run_convert_bytes_string w 38 9 5 ad len cap Tryz.underlying38 Tryz.underlying5 Tryz.underlying9]
 cases ad with
 | none =>
  have h0 : len = 0 := by
   rcases hc with h0 | ⟨b, off, hb, _⟩
   ·
    exact h0
   ·
    cases hb
  subst h0
  obtain rfl : zs = [] := List.eq_nil_of_length_eq_zero hl
  simp [Conv.bytesToString, str]
  rfl
 | some ad =>
  have hr := run_loadCells_list (P := Tryz.prog) (w := w) ad ((zs.map fun z : Nat => (z : Int)).map (Value.int .u8)) ?_
  ·
   have e : ((zs.map fun z : Nat => (z : Int)).map (Value.int .u8)).length = len := by simp [hl]
   rw [e] at hr
   rw [run_bytesToString w ad len cap _ hr, foldl_push]
   unfold str
   congr 3
   simp [ByteArray.empty, ByteArray.emptyWithCapacity, - ByteArray.emptyWithCapacity_eq_empty]
   rfl
  ·
   intro j v hj
   have hjl : j < zs.length := by
    have := (List.getElem?_eq_some_iff.1 hj).1
    simpa using this
   rcases hc with h0 | ⟨b, off, hb, _, hcell⟩
   ·
    omega
   ·
    cases hb
    have hcj := hcell j (by omega)
    rw [show Addr.add ⟨b, off, none⟩ j = ⟨b, off + j, none⟩ by simp [Addr.add], hcj]
    simp [hjl] at hj
    rw [← hj, getD_at zs j hjl]
/-- new bytes, their slice written out: L bytes at a -/
def RetR (B : Nat) (w : World) (zs : List Nat) (e : Ending) (w' : World) : Prop :=
 ∃ a L cap, e = .returned (.slice a L cap) ∧ zs.length = L ∧ L ≤ cap ∧ cap ≤ 9223372036854775807 ∧ (a = none → cap = 0) ∧ Rd w' a L zs ∧ Own w' B (.slice a L cap) zs ∧ Below B w w'
theorem Own.form {w : World} {B : Nat} {v : Value} {zs : List Nat} (h : Own w B v zs) (hz : ∀ z ∈ zs, z < 256) :
  ∃ a L cap, v = .slice a L cap ∧ zs.length = L ∧ L ≤ cap ∧ cap ≤ 9223372036854775807 ∧ (a = none → cap = 0) ∧ Rd w a L zs ∧ Own w B (.slice a L cap) zs := by
 have h' := h
 obtain ⟨a, cap, rfl, h1, h2, h3⟩ := h.rd hz
 refine ⟨a, zs.length, cap, rfl, rfl, h1, h2, ?_, h3, h'⟩
 rintro rfl
 rcases h'.2 with ⟨h4, _⟩ | ⟨g, c, cur, h4, _⟩
 ·
  simp at h4; omega
 ·
  simp at h4
theorem RetB.form {B : Nat} {w : World} {zs : List Nat} (hz : ∀ z ∈ zs, z < 256) (e : Ending) (w' : World) (h : RetB B w zs e w') : RetR B w zs e w' := by
 obtain ⟨v, rfl, ho, hb⟩ := h
 obtain ⟨a, L, cap, rfl, h1, h2, h3, h4, h5, h6⟩ := ho.form hz
 exact ⟨a, L, cap, rfl, h1, h2, h3, h4, h5, h6, hb⟩
theorem Rd.take {w : World} {a : Option Addr} {len : Nat} {zs : List Nat} (h : Rd w a len zs) (k : Nat) (hk : k ≤ len) : Rd w a k (zs.take k) := by
 obtain ⟨h1, h2, h3⟩ := h
 refine ⟨by rw [List.length_take]; omega, fun z hz => h2 z (List.mem_of_mem_take hz), ?_⟩
 by_cases h0 : k = 0
 ·
  exact .inl h0
 ·
  rcases h3 with h3 | ⟨b, off, ha, hb, hc⟩
  ·
   omega
  ·
   refine .inr ⟨b, off, ha, hb, fun i hi => ?_⟩
   rw [hc i (by omega)]
   simp [hi]
theorem Rd.drop {w : World} {b off len : Nat} {zs : List Nat} (h : Rd w (some ⟨b, off, none⟩) len zs) (k : Nat) : Rd w (some ⟨b, off + k, none⟩) (len - k) (zs.drop k) := by
 obtain ⟨h1, h2, h3⟩ := h
 refine ⟨by rw [List.length_drop]; omega, fun z hz => h2 z (List.mem_of_mem_drop hz), ?_⟩
 by_cases h0 : len - k = 0
 ·
  exact .inl h0
 ·
  rcases h3 with h3 | ⟨b', off', ha, hb, hc⟩
  ·
   omega
  ·
   simp only [Option.some.injEq, Addr.mk.injEq, and_true] at ha
   obtain ⟨rfl, rfl⟩ := ha
   refine .inr ⟨b, off + k, rfl, hb, fun i hi => ?_⟩
   rw [Nat.add_assoc, hc (k + i) (by omega)]
   simp
/-- append(s, p...), the new slice written out -/
theorem wpList_catR {w : World} {ops : Array Oper} {rest : List Oper} {o : Oper} {a : Act} {Q : Exit → Act → World → Prop} (hgd : o.guard = none) (s x : Operand)
  (ho : o.op = .call { callee := .builtin .append, args := #[s, x], argTypes := #[38, 38] })
  (B : Nat) (v : Value) (zs ys : List Nat) (hs : a.eval s = v) (hown : Own w B v zs) (hB : B ≤ w.heap.size) (ad : Option Addr) (len cap : Nat) (hx : a.eval x = .slice ad len cap)
  (hrd : Rd w ad len ys) (hnil : ad = none → cap = 0) (hz : ∀ z ∈ zs, z < 256)
  (hlen : zs.length + ys.length ≤ 140737488355328)
  (h : ∀ a' L' cap' w', (zs ++ ys).length = L' → L' ≤ cap' → cap' ≤ 9223372036854775807 → (a' = none → cap' = 0) → Rd w' a' L' (zs ++ ys) → Own w' B (.slice a' L' cap') (zs ++ ys) → Below B w w' → wpList Tryz.prog ops Q rest (a.put o.dst (.slice a' L' cap')) w') :
  wpList Tryz.prog ops Q (o :: rest) a w := by
 refine wpList_cat hgd s x ho B v zs ys hs hown hB ad len cap hx hrd hnil hlen fun v' w' h1 h2 => ?_
 obtain ⟨a', L', cap', rfl, g1, g2, g3, g4, g5, g6⟩ := h1.form (by
  intro z hm
  rcases List.mem_append.1 hm with h | h
  ·
   exact hz z h
  ·
   exact hrd.2.1 z h)
 exact h a' L' cap' w' g1 g2 g3 g4 g5 g6 h2
theorem drewN_add (w : World) (a b : Nat) : (w.drewN a).drewN b = w.drewN (a + b) := by
 simp [World.drewN, Nat.add_assoc]
theorem below_drewN' (B : Nat) (w : World) (n : Nat) : Below B w (w.drewN n) := ⟨rfl, rfl, rfl, Nat.le_refl _, fun _ _ => rfl⟩
theorem Own.nil (w : World) (B : Nat) : Own w B (.slice none 0 0) [] := World.ownsRow_nil _ _ _ _
end Go.Proofs.YtihbgigledmliaaGreat
namespace Go.Proofs.YtihbgigledmliaaGreat
open Go.RowKit
set_option linter.unusedVariables false
section
variable {P : Program} {ops : Array Oper} {Q : Exit → Act → World → Prop} {md : Region.Mode}
theorem wanted_plain {o : Oper} (hgd : o.guard = none) (a : Act) : Region.wanted o (yielded ops a.tmps) = true := by simp [Region.wanted, hgd]
/-- operation i is a load: it yields v here -/
theorem op_load {i d : Nat} {ty : TypeId} {x : Operand} {p v : Value} {a : Act} {w : World} {K : Act → World → Prop}
  (hi : (ops[i]?.map fun o => (o.dst, o.op, o.guard)) = some (some d, Op.load ty x, none)) (hx : a.eval x = p) (hrun : (Instr.loadAt ty p).run P w = .ok v w)
  (h : K (a.put (some d) v) w) : wpOp P ops Q i K a w := by
 cases ho : ops[i]? with
 | none => simp [ho] at hi
 | some o =>
  simp only [ho, Option.map_some, Option.some.injEq, Prod.mk.injEq] at hi
  obtain ⟨h1, h2, h3⟩ := hi
  unfold wpOp
  simp only [ho, wanted_plain h3, if_true]
  refine .inl ?_
  unfold Oper.wp execOp
  simp only [h2, hx, hrun, Sem.run_bind, Result.andThen_ok, Sem.run_pure]
  show K (a.put o.dst v) w
  rw [h1]
  exact h
/-- two loads, in either order -/
theorem any_loads2 (i j : Nat) {d1 d2 : Nat} {t1 t2 : TypeId} {x1 x2 : Operand} {p1 p2 v1 v2 : Value} {fuel : Nat} {listed : Array Bool} {a : Act} {w : World}
  (h0 : Region.ready md ops listed = [i, j]) (h1 : Region.ready md ops (listed.setIfInBounds i true) = [j]) (h2 : Region.ready md ops (listed.setIfInBounds j true) = [i])
  (hij : i ≠ j) (hd : d1 ≠ d2)
  (hi : (ops[i]?.map fun o => (o.dst, o.op, o.guard)) = some (some d1, Op.load t1 x1, none)) (hj : (ops[j]?.map fun o => (o.dst, o.op, o.guard)) = some (some d2, Op.load t2 x2, none))
  (e1 : a.eval x1 = p1) (e2 : a.eval x2 = p2) (e1' : (a.put (some d2) v2).eval x1 = p1) (e2' : (a.put (some d1) v1).eval x2 = p2)
  (r1 : (Instr.loadAt t1 p1).run P w = .ok v1 w) (r2 : (Instr.loadAt t2 p2).run P w = .ok v2 w)
  (h : wpAny P md ops Q fuel ((listed.setIfInBounds i true).setIfInBounds j true) ((a.put (some d1) v1).put (some d2) v2) w) :
  wpAny P md ops Q (fuel + 1 + 1) listed a w := by
 refine wpAny_all h0 (by simp) ?_
 intro k hk
 simp only [List.mem_cons, List.not_mem_nil, or_false] at hk
 rcases hk with rfl | rfl
 ·
  refine op_load hi e1 r1 (wpAny_all h1 (by simp) ?_)
  intro k hk
  simp only [List.mem_cons, List.not_mem_nil, or_false] at hk
  subst hk
  exact op_load hj e2' r2 h
 ·
  refine op_load hj e2 r2 (wpAny_all h2 (by simp) ?_)
  intro l hl
  simp only [List.mem_cons, List.not_mem_nil, or_false] at hl
  subst hl
  refine op_load hi e1' r1 ?_
  rw [Array.setIfInBounds_comm _ _ hij] at h
  have hc : (a.put (some d2) v2).put (some d1) v1 = (a.put (some d1) v1).put (some d2) v2 := Act.put_comm a v2 v1 (by simp [hd])
  rw [hc]
  exact h
end
end Go.Proofs.YtihbgigledmliaaGreat
namespace Go.Proofs.YtihbgigledmliaaGreat
open Go.RowKit
set_option linter.unusedVariables false
section
variable {P : Program} {ops : Array Oper} {Q : Exit → Act → World → Prop} {md : Region.Mode} {S : World → Prop}
/-- the same where the operation bears a guard that lets it be -/
theorem anyH_pureG (i : Nat) {d : Nat} {op : Op} {gd : Option (Nat × Bool)} (v : Value) {fuel : Nat} {listed : Array Bool} {a : Act} {w : World}
  (hi : (ops[i]?.map fun o => (o.dst, o.op, o.guard)) = some (some d, op, gd)) (hw : ∀ o : Oper, o.guard = gd → Region.wanted o (yielded ops a.tmps) = true) (hs : Region.noSelect ops = true) (hf : Region.free md ops listed i = true) (hr : (Region.ready md ops listed).contains i = true)
  (hQ : ∀ c a w, Q (.panic c) (a.put (some d) v) w → Q (.panic c) a w) (hy : ∀ o : Oper, o.op = op → ∀ W, S W → (execOp a.eval o).run P W = .ok (.value v) W) (hS : S w)
  (h : wpAnyH P md ops Q S fuel (listed.setIfInBounds i true) (a.put (some d) v) w) : wpAnyH P md ops Q S (fuel + 1) listed a w := by
 cases ho : ops[i]? with
 | none => simp [ho] at hi
 | some o =>
  simp only [ho, Option.map_some, Option.some.injEq, Prod.mk.injEq] at hi
  obtain ⟨h1, h2, h3⟩ := hi
  refine wpAnyH_take ho hs hf hr ?_ (Or.inl ⟨hw o h3, hy o h2⟩) hS ?_
  ·
   rw [h1]; exact hQ
  ·
   rw [h1]; exact h
/-- an operation that its guard keeps out -/
theorem anyH_skip (i : Nat) {d : Nat} {op : Op} {gd : Option (Nat × Bool)} {fuel : Nat} {listed : Array Bool} {a : Act} {w : World}
  (hi : (ops[i]?.map fun o => (o.dst, o.op, o.guard)) = some (some d, op, gd)) (hw : ∀ o : Oper, o.guard = gd → Region.wanted o (yielded ops a.tmps) = false) (hs : Region.noSelect ops = true) (hf : Region.free md ops listed i = true) (hr : (Region.ready md ops listed).contains i = true)
  (hQ : ∀ c a w, Q (.panic c) (a.put (some d) undef) w → Q (.panic c) a w) (hS : S w)
  (h : wpAnyH P md ops Q S fuel (listed.setIfInBounds i true) (a.put (some d) undef) w) : wpAnyH P md ops Q S (fuel + 1) listed a w := by
 cases ho : ops[i]? with
 | none => simp [ho] at hi
 | some o =>
  simp only [ho, Option.map_some, Option.some.injEq, Prod.mk.injEq] at hi
  obtain ⟨h1, h2, h3⟩ := hi
  refine wpAnyH_take ho hs hf hr ?_ (Or.inr ⟨hw o h3, rfl⟩) hS ?_
  ·
   rw [h1]; exact hQ
  ·
   rw [h1]; exact h
theorem anyH_loadG (i : Nat) {d : Nat} {ty : TypeId} {x : Operand} {gd : Option (Nat × Bool)} {p : Value} (v : Value) {fuel : Nat} {listed : Array Bool} {a : Act} {w : World}
  (hi : (ops[i]?.map fun o => (o.dst, o.op, o.guard)) = some (some d, Op.load ty x, gd)) (hw : ∀ o : Oper, o.guard = gd → Region.wanted o (yielded ops a.tmps) = true) (hs : Region.noSelect ops = true) (hf : Region.free md ops listed i = true) (hr : (Region.ready md ops listed).contains i = true)
  (hQ : ∀ c a w, Q (.panic c) (a.put (some d) v) w → Q (.panic c) a w) (hx : a.eval x = p) (hy : ∀ W, S W → (Instr.loadAt ty p).run P W = .ok v W) (hS : S w)
  (h : wpAnyH P md ops Q S fuel (listed.setIfInBounds i true) (a.put (some d) v) w) : wpAnyH P md ops Q S (fuel + 1) listed a w :=
 anyH_pureG i v hi hw hs hf hr hQ (fun o ho W hW => by unfold execOp; simp only [ho, hx, hy W hW, Sem.run_bind, Result.andThen_ok, Sem.run_pure]) hS h
theorem anyH_callG (i : Nat) {d : Option Tmp} {f : FuncId} {xs : Array Operand} {ts : Array TypeId} {gd : Option (Nat × Bool)} {vs : Array Value} {fuel : Nat} {listed : Array Bool} {a : Act} {w : World} {R : Ending → World → Prop}
  (h0 : Region.ready md ops listed = [i]) (hi : (ops[i]?.map fun o => (o.dst, o.op, o.guard)) = some (d, Op.call { callee := .value (.func f), args := xs, argTypes := ts }, gd)) (hw : ∀ o : Oper, o.guard = gd → Region.wanted o (yielded ops a.tmps) = true) (hx : xs.map a.eval = vs)
  (hf : (callFunc f vs).run P w = .ok (.enter f vs) w) (hc : Calls P f vs w R)
  (h : ∀ e w', R e w' → ∃ v, e = .returned v ∧ S w' ∧ (S w' → wpAnyH P md ops Q S fuel (listed.setIfInBounds i true) (a.put d v) w')) : wpAnyH P md ops Q S (fuel + 1) listed a w := by
 refine wpAnyH_all h0 (by simp) ?_
 intro k hk
 simp only [List.mem_cons, List.not_mem_nil, or_false] at hk
 subst hk
 cases ho : ops[k]? with
 | none => simp [ho] at hi
 | some o =>
  simp only [ho, Option.map_some, Option.some.injEq, Prod.mk.injEq] at hi
  obtain ⟨h1, h2, h3⟩ := hi
  unfold wpOp
  simp only [ho, hw o h3, if_true]
  refine .inl ?_
  have hr : (execOp a.eval o).run P w = .ok (.enter f vs) w := by
   unfold execOp
   rw [h2]
   simp [resolve, invoke, hx, Act.eval, go_sem, hf]
  unfold Oper.wp
  rw [hr]
  refine hc.mono fun e w' hR => ?_
  obtain ⟨v, rfl, hS, hv⟩ := h e w' hR
  rw [h1]
  exact ⟨hS, hv hS⟩
theorem anyH_begin {id : Nat} {a : Act} {w : World} (hm : P.follows .mixedOrders = true) (h : wpAnyH P .any ops Q S ops.size (Array.replicate ops.size false) a w.drew) : (Code.region id ops true).wp P Q a w :=
 wp_region_held hm h
end
end Go.Proofs.YtihbgigledmliaaGreat
namespace Go.Proofs.YtihbgigledmliaaGreat.Rotm
/-- the document's rounds: the first m bits are laid -/
def laid (x k : Nat) : Nat → Nat
 | 0 => 0
 | m + 1 => if x.testBit m then laid x k m ||| 2 ^ ((m + 32 - k) % 32) else laid x k m
end Go.Proofs.YtihbgigledmliaaGreat.Rotm
namespace Go.Proofs.YtihbgigledmliaaGreat
open Go.RowKit
end Go.Proofs.YtihbgigledmliaaGreat
namespace Go.Proofs.YtihbgigledmliaaGreat.Numm
/-- the number whose bytes these are -/
def num (c : Nat) (zs : List Nat) : Nat := zs.foldl (fun n z => n * 256 + z) c
theorem num_snoc (c : Nat) (zs : List Nat) (k : Nat) (h : k < zs.length) : num c (zs.take (k + 1)) = num c (zs.take k) * 256 + zs[k] := by
 unfold num
 rw [List.take_succ_eq_append_getElem h, List.foldl_append]
 rfl
theorem num_lt (zs : List Nat) (hz : ∀ z ∈ zs, z < 256) : num 0 zs < 256 ^ zs.length := by
 have : ∀ c, num c zs < (c + 1) * 256 ^ zs.length := by
  induction zs with
  | nil => intro c; simp [num]
  | cons z zs ih =>
   intro c
   have h1 := ih (fun x hx => hz x (List.mem_cons_of_mem _ hx)) (c * 256 + z)
   have h2 := hz z List.mem_cons_self
   show num (c * 256 + z) zs < _
   refine Nat.lt_of_lt_of_le h1 ?_
   have e : (c + 1) * 256 ^ (zs.length + 1) = ((c + 1) * 256) * 256 ^ zs.length := by rw [Nat.pow_succ, Nat.mul_comm (256 ^ zs.length) 256, Nat.mul_assoc]
   rw [List.length_cons, e]
   exact Nat.mul_le_mul_right _ (by omega)
 simpa using this 0
theorem num_take_lt (zs : List Nat) (hz : ∀ z ∈ zs, z < 256) (hl : zs.length ≤ 8) (k : Nat) : num 0 (zs.take k) < 18446744073709551616 := by
 have h := num_lt (zs.take k) (fun z hm => hz z (List.mem_of_mem_take hm))
 have h2 : (zs.take k).length ≤ 8 := by rw [List.length_take]; omega
 have h3 : 256 ^ (zs.take k).length ≤ 256 ^ 8 := Nat.pow_le_pow_right (by omega) h2
 omega
/-- before the last byte there is room for one more -/
theorem num_take_lt7 (zs : List Nat) (hz : ∀ z ∈ zs, z < 256) (hl : zs.length ≤ 8) (k : Nat) (hk : k < zs.length) : num 0 (zs.take k) < 72057594037927936 := by
 have h := num_lt (zs.take k) (fun z hm => hz z (List.mem_of_mem_take hm))
 have h2 : (zs.take k).length ≤ 7 := by rw [List.length_take]; omega
 have h3 : 256 ^ (zs.take k).length ≤ 256 ^ 7 := Nat.pow_le_pow_right (by omega) h2
 omega
/-- the bytes of a number, the most significant first -/
def put (n : Nat) : Nat → List Nat
 | 0 => []
 | k + 1 => put (n / 256) k ++ [n % 256]
theorem put_len (n k : Nat) : (put n k).length = k := by
 induction k generalizing n with
 | zero => rfl
 | succ k ih => simp [put, ih]
theorem put_byte (n k : Nat) : ∀ z ∈ put n k, z < 256 := by
 induction k generalizing n with
 | zero => simp [put]
 | succ k ih =>
  intro z hz
  simp only [put, List.mem_append, List.mem_singleton] at hz
  rcases hz with h | rfl
  ·
   exact ih _ z h
  ·
   omega
theorem put_get (n k i : Nat) (h : i < k) : (put n k).getD i 0 = n / 256 ^ (k - 1 - i) % 256 := by
 induction k generalizing n with
 | zero => omega
 | succ k ih =>
  by_cases hi : i = k
  ·
   subst hi
   simp [put, put_len]
  ·
   have h1 : i < (put (n / 256) k).length := by rw [put_len]; omega
   simp only [put, List.getD_eq_getElem?_getD, List.getElem?_append_left h1]
   have := ih (n / 256) (by omega)
   rw [List.getD_eq_getElem?_getD] at this
   rw [this, Nat.div_div_eq_div_mul, show k + 1 - 1 - i = (k - 1 - i) + 1 by omega, Nat.pow_succ, Nat.mul_comm (256 ^ _) 256]
/-- the first byte ahead -/
theorem put_head (n k : Nat) : put n (k + 1) = (n / 256 ^ k % 256) :: put n k := by
 induction k generalizing n with
 | zero => simp [put]
 | succ k ih =>
  rw [put, ih (n / 256)]
  rw [show put n (k + 1) = put (n / 256) k ++ [n % 256] from rfl]
  rw [Nat.div_div_eq_div_mul, ← Nat.pow_succ', List.cons_append]
end Go.Proofs.YtihbgigledmliaaGreat.Numm
namespace Go.Proofs.YtihbgigledmliaaGreat
open Go.RowKit
set_option maxRecDepth 100000 in
set_option maxHeartbeats 400000 in
theorem refGet_some (b off len cap : Nat) (zs : List Nat) (w : World) (hl : zs.length = len) (hm : len ≤ 8) (hz : ∀ z ∈ zs, z < 256)
  (hcell : ∀ i, i < len → w.cell? ⟨b, off + i, none⟩ = some (.int .u8 ((zs.getD i 0 : Nat) : Int))) :
  Calls Tryz.prog 87 #[.slice (some ⟨b, off, none⟩) len cap] w fun e w' => e = .returned (.tuple #[.int .u64 ((Numm.num 0 zs : Nat) : Int), .bool true]) ∧ w = w' := by
 go_enter Tryz.func87, Tryz.ntmps87
 go_wp2
 go_loop [4, 5] (fun c i => ∃ k : Nat, k ≤ len ∧ i = .int .i64 k ∧ c = .int .u64 (Numm.num 0 (zs.take k) : Nat)) (fun _ i => len - (intOf i).toNat)
 case atStart => exact ⟨0, Nat.zero_le _, rfl, rfl⟩
 case round =>
  obtain ⟨k, hk, rfl, rfl⟩ := hrel
  by_cases hkl : k < len
  ·
   have hcx := hcell k hkl
   rw [getD_at zs k (by omega)] at hcx
   have hzk : zs[k] < 256 := hz _ (List.getElem_mem _)
   have hN := Numm.num_take_lt7 zs hz (by omega) k (by omega)
   have HS := Lib.hid (Numm.num_snoc 0 zs k (by omega))
   obtain ⟨N, hNe⟩ : ∃ N, N = Numm.num 0 (zs.take k) := ⟨_, rfl⟩
   rw [← hNe] at hN
   rw [← hNe]
   obtain ⟨c, hc⟩ : ∃ c, c = zs[k] := ⟨_, rfl⟩
   rw [← hc] at hcx hzk
   have HN := Lib.hid hNe
   have HC := Lib.hid hc
   clear hcell hc hNe
   go_wp2
   go_round
   case rel => exact ⟨k + 1, by omega, by go_num, by rw [HS.out, ← HN.out, ← HC.out]; go_num⟩
   case measure => simp [intOf]; omega
  ·
   go_wp2
   go_ret2
   obtain rfl : k = len := by omega
   rw [List.take_of_length_le (by omega)]
   exact ⟨rfl, rfl⟩
theorem refGet_nil (a : Option Addr) (cap : Nat) (w : World) :
  Calls Tryz.prog 87 #[.slice a 0 cap] w fun e w' => e = .returned (.tuple #[.int .u64 0, .bool true]) ∧ w = w' := by
 go_enter Tryz.func87, Tryz.ntmps87
 go_wp2
 refine wp_loop_rounds 1 ?_
 rw [rounds_succ]
 go_wp2
 go_ret2
 exact ⟨rfl, rfl⟩
/-- the number of eight bytes at most -/
theorem refGet_c (a : Option Addr) (len cap : Nat) (zs : List Nat) (w : World) (h : Rd w a len zs) (hm : len ≤ 8) :
  Calls Tryz.prog 87 #[.slice a len cap] w fun e w' => e = .returned (.tuple #[.int .u64 ((Numm.num 0 zs : Nat) : Int), .bool true]) ∧ w = w' := by
 obtain ⟨hl, hz, h0 | ⟨b, off, rfl, _, hc⟩⟩ := h
 ·
  subst h0
  obtain rfl : zs = [] := List.eq_nil_of_length_eq_zero hl
  exact refGet_nil a cap w
 ·
  exact refGet_some b off len cap zs w hl hm hz hc
/-- Word: where there are four bytes -/
theorem word_out (a : Option Addr) (len cap : Nat) (at_ : Int) (w : World) (h : at_ < 0 ∨ (len : Int) - 4 < at_) (hl : len ≤ 9223372036854775807) :
  Calls Tryz.prog 126 #[.slice a len cap, .int .i64 at_] w (RetD (.tuple #[.int .u32 0, .bool false]) w) := by
 by_cases h0 : at_ < 0
 ·
  go_enter Tryz.func126, Tryz.ntmps126
  go_wp2
  go_ret2
  exact ⟨rfl, 0, rfl⟩
 ·
  have h1 : (len : Int) - 4 < at_ := by omega
  clear h
  go_enter Tryz.func126, Tryz.ntmps126
  go_wp2
  go_ret2
  exact ⟨rfl, 0, rfl⟩
theorem word_val (x0 x1 x2 x3 : Nat) (h0 : x0 < 256) (h1 : x1 < 256) (h2 : x2 < 256) (h3 : x3 < 256) :
  bits .or .u32 (bits .or .u32 (bits .or .u32 ((x0 : Int) * 16777216) ((x1 : Int) * 65536)) ((x2 : Int) * 256)) (x3 : Int) = ((Numm.num 0 [x0, x1, x2, x3] : Nat) : Int) := by
 have e : Numm.num 0 [x0, x1, x2, x3] = x0 * 16777216 + x1 * 65536 + x2 * 256 + x3 := by simp [Numm.num]; omega
 have f1 := Nat.two_pow_add_eq_or_of_lt (i := 24) (b := x1 * 65536) (by omega) x0
 have f2 := Nat.two_pow_add_eq_or_of_lt (i := 16) (b := x2 * 256) (by omega) (x0 * 256 + x1)
 have f3 := Nat.two_pow_add_eq_or_of_lt (i := 8) (b := x3) (by omega) (x0 * 65536 + x1 * 256 + x2)
 have g1 : x0 * 16777216 ||| x1 * 65536 = x0 * 16777216 + x1 * 65536 := by rw [show x0 * 16777216 = 2 ^ 24 * x0 by omega, ← f1]
 have g2 : (x0 * 16777216 + x1 * 65536) ||| x2 * 256 = x0 * 16777216 + x1 * 65536 + x2 * 256 := by rw [show x0 * 16777216 + x1 * 65536 = 2 ^ 16 * (x0 * 256 + x1) by omega, ← f2]
 have g3 : (x0 * 16777216 + x1 * 65536 + x2 * 256) ||| x3 = x0 * 16777216 + x1 * 65536 + x2 * 256 + x3 := by rw [show x0 * 16777216 + x1 * 65536 + x2 * 256 = 2 ^ 8 * (x0 * 65536 + x1 * 256 + x2) by omega, ← f3]
 rw [show ((x0 : Int) * 16777216) = ((x0 * 16777216 : Nat) : Int) by omega, show ((x1 : Int) * 65536) = ((x1 * 65536 : Nat) : Int) by omega, show ((x2 : Int) * 256) = ((x2 * 256 : Nat) : Int) by omega]
 rw [u32_or_nat _ _ (by omega) (by omega), g1, u32_or_nat _ _ (by omega) (by omega), g2, u32_or_nat _ _ (by omega) (by omega), g3, e]
theorem word_ret {a b : Int} (h : a = b) : Ending.returned (.tuple #[.int .u32 a, .bool true]) = .returned (.tuple #[.int .u32 b, .bool true]) := by rw [h]
set_option maxRecDepth 100000 in
set_option maxHeartbeats 800000 in
theorem word_in (b off len cap k : Nat) (zs : List Nat) (w : World) (hl : zs.length = len) (hm : len ≤ 9223372036854775807) (hz : ∀ z ∈ zs, z < 256) (hk : k + 4 ≤ len)
  (hcell : ∀ i, i < len → w.cell? ⟨b, off + i, none⟩ = some (.int .u8 ((zs.getD i 0 : Nat) : Int))) :
  Calls Tryz.prog 126 #[.slice (some ⟨b, off, none⟩) len cap, .int .i64 (k : Int)] w (RetD (.tuple #[.int .u32 ((Numm.num 0 [zs.getD k 0, zs.getD (k + 1) 0, zs.getD (k + 2) 0, zs.getD (k + 3) 0] : Nat) : Int), .bool true]) w) := by
 have hb : ∀ i, i < len → zs.getD i 0 < 256 := fun i hi => by rw [getD_at zs i (by omega)]; exact hz _ (List.getElem_mem _)
 have b0 := hb k (by omega)
 have b1 := hb (k + 1) (by omega)
 have b2 := hb (k + 2) (by omega)
 have b3 := hb (k + 3) (by omega)
 have c0 := hcell k (by omega)
 have c1 := hcell (k + 1) (by omega)
 have c2 := hcell (k + 2) (by omega)
 have c3 := hcell (k + 3) (by omega)
 obtain ⟨x0, e0⟩ : ∃ x, zs.getD k 0 = x := ⟨_, rfl⟩
 obtain ⟨x1, e1⟩ : ∃ x, zs.getD (k + 1) 0 = x := ⟨_, rfl⟩
 obtain ⟨x2, e2⟩ : ∃ x, zs.getD (k + 2) 0 = x := ⟨_, rfl⟩
 obtain ⟨x3, e3⟩ : ∃ x, zs.getD (k + 3) 0 = x := ⟨_, rfl⟩
 rw [e0] at b0 c0 ⊢
 rw [e1] at b1 c1 ⊢
 rw [e2] at b2 c2 ⊢
 rw [e3] at b3 c3 ⊢
 clear e0 e1 e2 e3 hcell hb hz
 have HV := Lib.hid (word_val x0 x1 x2 x3 b0 b1 b2 b3)
 have q0 : (0 : Int) ≤ (k : Int) := by omega
 have q1 : (k : Int) + 3 < (len : Int) := by omega
 go_enter Tryz.func126, Tryz.ntmps126
 go_wp2
 go_quiet (fail)
 go_wp2
 go_ret2
 exact ⟨word_ret HV.out, nq, rfl⟩
/-- Word of bytes that can be read -/
theorem word_c (a : Option Addr) (len cap k : Nat) (zs : List Nat) (w : World) (h : Rd w a len zs) (hm : len ≤ 9223372036854775807) (hk : k + 4 ≤ len) :
  Calls Tryz.prog 126 #[.slice a len cap, .int .i64 (k : Int)] w (RetD (.tuple #[.int .u32 ((Numm.num 0 [zs.getD k 0, zs.getD (k + 1) 0, zs.getD (k + 2) 0, zs.getD (k + 3) 0] : Nat) : Int), .bool true]) w) := by
 obtain ⟨hl, hz, h0 | ⟨b, off, rfl, _, hc⟩⟩ := h
 ·
  omega
 ·
  exact word_in b off len cap k zs w hl hm hz hk hc
end Go.Proofs.YtihbgigledmliaaGreat
namespace Go.Proofs.YtihbgigledmliaaGreat
open Go.RowKit
def row (n m k : Nat) : List Nat := List.replicate (n - k) 0 ++ Numm.put m k
theorem row_len (n m k : Nat) (h : k ≤ n) : (row n m k).length = n := by simp [row, Numm.put_len]; omega
theorem row_next (n m k : Nat) (h : k < n) : (row n m k).set (n - 1 - k) (m / 256 ^ k % 256) = row n m (k + 1) := by
 unfold row
 rw [Numm.put_head, show n - k = (n - 1 - k) + 1 by omega, List.replicate_succ', List.append_assoc, show n - (k + 1) = n - 1 - k by omega]
 rw [List.set_append_right _ _ (by simp)]
 simp
theorem row_zero (n m : Nat) : row n m 0 = List.replicate n 0 := by simp [row, Numm.put]
theorem made_zero (n : Nat) : (madeCells #[Value.int IntKind.u8 0] n).toList = cellsOf (List.replicate n 0) := by
 apply List.ext_getElem
 ·
  simp [madeCells, cellsOf]
 ·
  intro i h1 h2
  simp [madeCells, cellsOf, Nat.mod_one]
theorem put_cell (m k : Nat) : Value.int IntKind.u8 ((m : Int) / 2 ^ (8 * k) % 256) = Value.int IntKind.u8 ((m / 256 ^ k % 256 : Nat) : Int) := by
 congr 1
 rw [show (2 : Int) ^ (8 * k) = ((256 ^ k : Nat) : Int) by rw [Int.pow_mul, Int.natCast_pow]; rfl]
 omega
theorem row_stored {w : World} {B g n m k : Nat} (h : w.ownsRow B 5 1 (.slice (some ⟨g, 0, none⟩) n n) n (cellsOf (row n m k))) (hk : k < n) :
  (w.setCell ⟨g, n - 1 - k, none⟩ (.int .u8 ((m : Int) / 2 ^ (8 * k) % 256))).ownsRow B 5 1 (.slice (some ⟨g, 0, none⟩) n n) n (cellsOf (row n m (k + 1))) := by
 have := (h.stored (n - 1 - k) (.int .u8 ((m / 256 ^ k % 256 : Nat) : Int))).1
 rw [put_cell, ← row_next n m k hk]
 rw [show cellsOf ((row n m k).set (n - 1 - k) (m / 256 ^ k % 256)) = (cellsOf (row n m k)).set (n - 1 - k) (.int .u8 ((m / 256 ^ k % 256 : Nat) : Int)) by simp [cellsOf, List.map_set]]
 exact this
set_option maxRecDepth 100000 in
set_option maxHeartbeats 800000 in
theorem put_in (m n : Nat) (w : World) (hm : m < 18446744073709551616) (hn : n ≤ 8) :
  Calls Tryz.prog 88 #[.int .u64 (m : Int), .int .i64 (n : Int)] w (RetB w.heap.size w (Numm.put m n)) := by
 obtain ⟨i0, hi, hz0, hz1, hz2⟩ := info_parts byteInfo
 have HM := Lib.hid hm
 clear hm
 go_enter Tryz.func88, Tryz.ntmps88
 go_wp2_with (at_make; refine wpList_make_full _ rfl _ _ 38 rfl w.heap.size 5 i0 (.int .u8 0) 1 Tryz.underlying38 hi hz0 hz1 .i64 .i64 _ _ n rfl rfl rfl rfl (by rw [hz2]; omega) (by unfold maxLen; omega) (Nat.le_refl _) ?_)
 intro w0 hown0 hg0
 have hb0 : Below w.heap.size w w0 := (Below.refl _ _).grown hg0 (Nat.le_refl _) (by simp)
 have hown : w0.ownsRow w.heap.size 5 1 (.slice (some ⟨w.heap.size, 0, none⟩) n n) n (cellsOf (row n m 0)) := by
  rw [row_zero, ← made_zero]
  exact hown0
 clear hown0 hg0
 go_wp2
 go_loopw [16] (fun i wr => ∃ k : Nat, k ≤ n ∧ i = .int .i64 k ∧ wr.ownsRow w.heap.size 5 1 (.slice (some ⟨w.heap.size, 0, none⟩) n n) n (cellsOf (row n m k)) ∧ Below w.heap.size w wr) (fun i _ => n - (intOf i).toNat)
 case atStart => exact ⟨0, Nat.zero_le _, rfl, hown, hb0⟩
 case round =>
  clear hown hb0
  obtain ⟨k, hk, rfl, hown, hnx⟩ := hrel
  by_cases hkl : k < n
  ·
   have hcell := hown.cellAt (n - 1 - k) (by omega)
   have hfz := hown.frozenAt (n - 1 - k)
   rw [cellsOf_get _ _ (by rw [row_len n m k (by omega)]; omega)] at hcell
   have hst := row_stored hown hkl
   have hbe : Below w.heap.size w (wr.setCell ⟨w.heap.size, n - 1 - k, none⟩ (.int .u8 ((m : Int) / 2 ^ (8 * k) % 256))) := hnx.setCell (by simp) _
   clear hown hnx
   go_wp2
   go_roundw
   case rel => exact ⟨k + 1, by omega, by go_num, hst, hbe⟩
   case measure => simp [intOf]; omega
  ·
   go_wp2
   go_ret
   obtain rfl : k = n := by omega
   have e : row k m k = Numm.put m k := by simp [row]
   rw [e] at hown
   refine ⟨_, rfl, ?_, hnx⟩
   unfold Own
   rw [Numm.put_len]
   exact hown
/-- the first k bytes of n -/
def puts (m n k : Nat) : List Nat := (Numm.put m n).take k
theorem puts_next (m n k : Nat) (h : k < n) : puts m n k ++ [m / 256 ^ (n - 1 - k) % 256] = puts m n (k + 1) := by
 unfold puts
 rw [take_snoc _ k (by rw [Numm.put_len]; exact h)]
 have e := Numm.put_get m n k h
 rw [getD_at _ k (by rw [Numm.put_len]; exact h)] at e
 rw [e]
set_option maxRecDepth 100000 in
set_option maxHeartbeats 800000 in
theorem refPut_in (m n : Nat) (w : World) (hm : m < 18446744073709551616) (hn : n ≤ 8) (h1 : 1 ≤ n) :
  Calls Tryz.prog 93 #[.int .u64 (m : Int), .int .i64 (n : Int)] w (RetB w.heap.size w (Numm.put m n)) := by
 have HM := Lib.hid hm
 clear hm
 go_enter Tryz.func93, Tryz.ntmps93
 go_wp2
 go_loopw [5, 6] (fun v i wr => ∃ k : Nat, k ≤ n ∧ i = .int .i64 ((n : Int) - 1 - k) ∧ Own wr w.heap.size v (puts m n k) ∧ Below w.heap.size w wr) (fun _ i _ => (intOf i + 1).toNat)
 case atStart => exact ⟨0, Nat.zero_le _, by go_num, Own.nil _ _, Below.refl _ _⟩
 case round =>
  obtain ⟨k, hk, rfl, hown, hnx⟩ := hrel
  have hsz := hnx.size
  by_cases hkl : k < n
  ·
   obtain ⟨j, hj⟩ : ∃ j : Nat, (n : Int) - 1 - (k : Int) = (j : Int) := ⟨n - 1 - k, by omega⟩
   have hP := Lib.hid (puts_next m n k hkl)
   have hlen : (puts m n k).length + 1 ≤ 140737488355328 := by unfold puts; rw [List.length_take]; omega
   rw [hj]
   have hjn : j + 1 + k = n := by omega
   have HJ := Lib.hid hj
   have HC := Lib.hid (put_cell m j)
   clear hj
   go_wp2_with (at_builtin; (refine wpList_push rfl _ _ rfl w.heap.size u5 (puts m n k) (m / 256 ^ (n - 1 - k) % 256) _ ?hy rfl hown hsz rfl hlen ?_))
   case hy =>
    have := HC.out
    simp only [Value.int.injEq, true_and] at this
    rw [this, show n - 1 - k = j by omega]
   intro v1 w1 hown1 hb1
   have hnx1 := hnx.trans hb1
   clear hown hnx hb1
   rw [hP.out] at hown1
   go_wp2
   go_roundw
   case rel => exact ⟨k + 1, by omega, by go_num, hown1, hnx1⟩
   case measure => simp [intOf]
  ·
   obtain rfl : k = n := by omega
   rw [show (k : Int) - 1 - (k : Int) = -1 by omega]
   go_wp2
   go_ret
   have e : puts m k k = Numm.put m k := by unfold puts; exact List.take_of_length_le (by rw [Numm.put_len]; exact Nat.le_refl _)
   rw [e] at hown
   exact ⟨_, rfl, hown, hnx⟩
end Go.Proofs.YtihbgigledmliaaGreat
namespace Go.Proofs.YtihbgigledmliaaGreat
set_option linter.unusedVariables false
open Go.RowKit
end Go.Proofs.YtihbgigledmliaaGreat
namespace Go.Proofs.YtihbgigledmliaaGreat
open Go.RowKit
theorem twin_nil (a : Option Addr) (cap : Nat) (w : World) :
  Calls Tryz.prog 46 #[.slice a 0 cap] w (RetB w.heap.size w []) := by
 go_enter Tryz.func46, Tryz.ntmps46
 go_wp2
 refine wp_loop_rounds 1 ?_
 rw [rounds_succ]
 go_wp2
 go_ret
 exact ⟨_, rfl, Own.nil _ _, Below.refl _ _⟩
set_option maxHeartbeats 400000 in
theorem twin_some (b off len cap : Nat) (zs : List Nat) (w : World) (hl : zs.length = len) (hm : len ≤ 140737488355327) (hb : b < w.heap.size)
  (hcell : ∀ i, i < len → w.cell? ⟨b, off + i, none⟩ = some (.int .u8 ((zs.getD i 0 : Nat) : Int))) :
  Calls Tryz.prog 46 #[.slice (some ⟨b, off, none⟩) len cap] w (RetB w.heap.size w zs) := by
 go_enter Tryz.func46, Tryz.ntmps46
 go_wp2
 go_loopw [3, 4] (fun v i wr => ∃ k : Nat, k ≤ len ∧ i = .int .i64 k ∧ Own wr w.heap.size v (zs.take k) ∧ Below w.heap.size w wr) (fun _ i _ => len - (intOf i).toNat)
 case atStart => exact ⟨0, Nat.zero_le _, rfl, Own.nil _ _, Below.refl _ _⟩
 case round =>
  obtain ⟨k, hk, rfl, hown, hnx⟩ := hrel
  have hcx : k < len → wr.cell? ⟨b, off + k, none⟩ = some (.int .u8 ((zs.getD k 0 : Nat) : Int)) := fun h => (hnx.cell (by exact hb)).trans (hcell k h)
  clear hcell
  by_cases hkl : k < len
  ·
   have hcy := hcx hkl
   have hsz := hnx.size
   go_wp2_with (at_builtin; (refine wpList_push rfl _ _ rfl w.heap.size u3 (zs.take k) zs[k] _ rfl rfl hown hsz rfl ?hl ?_))
   case hl => rw [List.length_take]; omega
   intro v1 w1 hown1 hb1
   have hnx1 := hnx.trans hb1
   clear hown hnx hb1 hcx hcy
   go_wp2
   go_roundw
   case rel => exact ⟨k + 1, by omega, by go_num, hown1, hnx1⟩
   case measure => simp [intOf]; omega
  ·
   go_wp2
   go_ret
   obtain rfl : k = len := by omega
   rw [List.take_of_length_le (by omega)] at hown
   exact ⟨_, rfl, hown, hnx⟩
/-- Twin: the same bytes in new memory -/
theorem twin_c (a : Option Addr) (len cap : Nat) (zs : List Nat) (w : World) (h : Rd w a len zs) (hm : len ≤ 140737488355327) :
  Calls Tryz.prog 46 #[.slice a len cap] w (RetB w.heap.size w zs) := by
 obtain ⟨hl, hz, h0 | ⟨b, off, rfl, hb, hc⟩⟩ := h
 ·
  subst h0
  obtain rfl : zs = [] := List.eq_nil_of_length_eq_zero hl
  exact twin_nil a cap w
 ·
  exact twin_some b off len cap zs w hl hm hb hc
end Go.Proofs.YtihbgigledmliaaGreat
namespace Go.Proofs.YtihbgigledmliaaGreat
open Go.RowKit
theorem same_len (a1 a2 : Option Addr) (len1 cap1 len2 cap2 : Nat) (w : World) (h : len1 ≠ len2) :
  Calls Tryz.prog 55 #[.slice a1 len1 cap1, .slice a2 len2 cap2] w (RetD (.bool false) w) := by
 have hb : ((len1 : Int) == (len2 : Int)) = false := by simp; omega
 have hb2 : ((len1 : Int) != (len2 : Int)) = true := by simp; omega
 clear h
 go_enter Tryz.func55, Tryz.ntmps55
 go_wp2
 go_ret
 exact ⟨rfl, 0, rfl⟩
theorem same_nil (a1 a2 : Option Addr) (cap1 cap2 : Nat) (w : World) :
  Calls Tryz.prog 55 #[.slice a1 0 cap1, .slice a2 0 cap2] w (RetD (.bool true) w) := by
 go_enter Tryz.func55, Tryz.ntmps55
 go_wp2
 refine wp_loop_rounds 1 ?_
 rw [rounds_succ]
 go_wp2
 go_ret
 exact ⟨rfl, 0, rfl⟩
theorem take_step {xs ys : List Nat} {k : Nat} (h1 : k < xs.length) (h2 : k < ys.length) (h : xs.take k = ys.take k) (he : xs[k] = ys[k]) : xs.take (k + 1) = ys.take (k + 1) := by
 rw [take_snoc xs k h1, take_snoc ys k h2, h, he]
set_option maxRecDepth 100000 in
set_option maxHeartbeats 800000 in
theorem same_some (b1 o1 b2 o2 len cap1 cap2 : Nat) (xs ys : List Nat) (w : World) (hl1 : xs.length = len) (hl2 : ys.length = len) (hm : len ≤ 9223372036854775807)
  (hc1 : ∀ i, i < len → w.cell? ⟨b1, o1 + i, none⟩ = some (.int .u8 ((xs.getD i 0 : Nat) : Int)))
  (hc2 : ∀ i, i < len → w.cell? ⟨b2, o2 + i, none⟩ = some (.int .u8 ((ys.getD i 0 : Nat) : Int))) :
  Calls Tryz.prog 55 #[.slice (some ⟨b1, o1, none⟩) len cap1, .slice (some ⟨b2, o2, none⟩) len cap2] w (RetD (.bool (decide (xs = ys))) w) := by
 go_enter Tryz.func55, Tryz.ntmps55
 go_wp2
 go_loopw [5] (fun i wr => ∃ k n : Nat, k ≤ len ∧ i = .int .i64 k ∧ xs.take k = ys.take k ∧ wr = w.drewN n) (fun i _ => len - (intOf i).toNat)
 case atStart => exact ⟨0, 0, Nat.zero_le _, rfl, rfl, rfl⟩
 case round =>
  obtain ⟨k, n, hk, rfl, htk, rfl⟩ := hrel
  have HT := Lib.hid htk
  clear htk
  by_cases hkl : k < len
  ·
   have hx := hc1 k hkl
   have hy := hc2 k hkl
   rw [getD_at _ _ (by omega)] at hx hy
   obtain ⟨x, hxe⟩ : ∃ x, x = xs[k] := ⟨_, rfl⟩
   obtain ⟨y, hye⟩ : ∃ y, y = ys[k] := ⟨_, rfl⟩
   rw [← hxe] at hx
   rw [← hye] at hy
   have HX := Lib.hid hxe
   have HY := Lib.hid hye
   clear hc1 hc2 hxe hye
   have hx' : (w.drewN n).cell? ⟨b1, o1 + k, none⟩ = some (.int .u8 (x : Int)) := hx
   have hy' : (w.drewN n).cell? ⟨b2, o2 + k, none⟩ = some (.int .u8 (y : Int)) := hy
   have i0 : (0 : Int) ≤ (k : Int) := by omega
   have i1 : (k : Int) < (len : Int) := by omega
   by_cases hxy : x = y
   ·
    subst hxy
    go_wp2
    go_quiet (fail)
    go_wp2
    go_roundw
    case rel => exact ⟨k + 1, n + nq, by omega, by go_num, take_step (by omega) (by omega) HT.out (by rw [← HX.out, ← HY.out]), by first | rfl | exact drewN_add _ _ _⟩
    case measure => simp [intOf]; omega
   ·
    have hne : ((x : Int) != (y : Int)) = true := by simp; omega
    go_wp2
    go_quiet (fail)
    go_wp2
    go_ret
    refine ⟨ret_bool ?_, n + nq, by first | rfl | exact drewN_add _ _ _⟩
    symm
    simp only [decide_eq_false_iff_not]
    intro he
    subst he
    exact hxy (by rw [HX.out, HY.out])
  ·
   go_wp2
   go_ret
   obtain rfl : k = len := by omega
   have := HT.out
   rw [List.take_of_length_le (by omega), List.take_of_length_le (by omega)] at this
   exact ⟨ret_bool (by simp [this]), n, rfl⟩
/-- Same: are they the same? -/
theorem same_c (a1 a2 : Option Addr) (len1 cap1 len2 cap2 : Nat) (xs ys : List Nat) (w : World) (h1 : Rd w a1 len1 xs) (h2 : Rd w a2 len2 ys) (hm : len1 ≤ 9223372036854775807) :
  Calls Tryz.prog 55 #[.slice a1 len1 cap1, .slice a2 len2 cap2] w (RetD (.bool (decide (xs = ys))) w) := by
 obtain ⟨hl1, _, hc1⟩ := h1
 obtain ⟨hl2, _, hc2⟩ := h2
 by_cases hl : len1 = len2
 ·
  subst hl
  by_cases h0 : len1 = 0
  ·
   subst h0
   obtain rfl : xs = [] := List.eq_nil_of_length_eq_zero hl1
   obtain rfl : ys = [] := List.eq_nil_of_length_eq_zero hl2
   exact same_nil a1 a2 cap1 cap2 w
  ·
   rcases hc1 with h | ⟨b1, o1, rfl, _, hc1⟩
   ·
    exact absurd h h0
   ·
    rcases hc2 with h | ⟨b2, o2, rfl, _, hc2⟩
    ·
     exact absurd h h0
    ·
     exact same_some b1 o1 b2 o2 len1 cap1 cap2 xs ys w hl1 hl2 hm hc1 hc2
 ·
  have hne : decide (xs = ys) = false := by
   simp only [decide_eq_false_iff_not]
   intro he
   subst he
   omega
  rw [hne]
  exact same_len a1 a2 len1 cap1 len2 cap2 w hl
end Go.Proofs.YtihbgigledmliaaGreat
namespace Go.Proofs.YtihbgigledmliaaGreat
end Go.Proofs.YtihbgigledmliaaGreat
namespace Go.Proofs.YtihbgigledmliaaGreat
open Go.RowKit
theorem own : ownKnob Tryz.prog.godebug = none := by kernel_rfl
theorem laidOut : laidOutB Tryz.prog = true := by kernel_rfl
/-- a list of bytes that came in -/
def BytesIn (W : World) (a : Option Addr) (len cap : Nat) (zs : List Nat) : Prop :=
 Rd W a len zs ∧ (a = none → cap = 0) ∧ len ≤ cap ∧ cap ≤ 140737488351232
theorem bytesIn_some {W : World} {x : Addr} {len cap : Nat} {zi : List Int} (hl : len ≤ cap) (hz : zi.length = cap) (hcap : cap ≤ 140737488351232)
  (hcell : ∀ i, i < zi.length → W.cell? (x.add i) = some (.int .u8 (zi.getD i 0))) (hwz : ∀ n ∈ zi, (Lit.int .u8 n).wf = true) : BytesIn W (some x) len cap ((zi.take len).map Int.toNat) := by
 have hb : ∀ n ∈ zi, 0 ≤ n ∧ n ≤ 255 := fun n hn => by
  have := hwz n hn
  simpa [Lit.wf, IntKind.min, IntKind.max, IntKind.signed, IntKind.bits] using this
 refine ⟨⟨by simp; omega, ?_, ?_⟩, by simp, hl, hcap⟩
 ·
  intro z hm
  simp only [List.mem_map] at hm
  obtain ⟨n, hn, rfl⟩ := hm
  have := hb n (List.mem_of_mem_take hn)
  omega
 ·
  by_cases h0 : len = 0
  ·
   exact .inl h0
  ·
   obtain ⟨b, off, spot⟩ := x
   have hspot : spot = none := by simpa [Addr.add] using World.cell?_spot (hcell 0 (by omega))
   subst hspot
   have h00 := hcell 0 (by omega)
   rw [show Addr.add ⟨b, off, none⟩ 0 = ⟨b, off, none⟩ by simp [Addr.add]] at h00
   refine .inr ⟨b, off, rfl, World.block_lt_of_cell? W ⟨b, off, none⟩ h00, fun i hi => ?_⟩
   have hc := hcell i (by omega)
   rw [show Addr.add ⟨b, off, none⟩ i = ⟨b, off + i, none⟩ by simp [Addr.add]] at hc
   rw [hc]
   have hi2 : i < zi.length := by omega
   have hge := hb zi[i] (List.getElem_mem _)
   have e1 : zi.getD i 0 = zi[i] := by simp [hi2]
   have e2 : ((zi.take len).map Int.toNat).getD i 0 = zi[i].toNat := by simp [hi, hi2]
   rw [e1, e2]
   congr 2
   omega
end Go.Proofs.YtihbgigledmliaaGreat

namespace Go.Proofs.YtihbgigledmliaaGreat
theorem sT {a : Type} (xs : List a) (i : Nat) (x : a) : xs.toArray.setIfInBounds i x = (xs.set i x).toArray := List.setIfInBounds_toArray ..
theorem sZ {a : Type} (x : a) (xs : List a) (y : a) : (x :: xs).set 0 y = y :: xs := List.set_cons_zero ..
theorem sS {a : Type} (x : a) (xs : List a) (n : Nat) (y : a) : (x :: xs).set (n + 1) y = x :: xs.set n y := List.set_cons_succ ..
theorem wantedP {ops : Array Oper} {a : Act} (o : Oper) (ho : o.guard = none) : Region.wanted o (yielded ops a.tmps) = true := wanted_plain ho a
section
open Go.RowKit
variable {P : Program} {md : Region.Mode} {ops : Array Oper} {Q : Exit → Act → World → Prop} {S : World → Prop}
theorem aP (i : Nat) {d : Nat} {op : Op} (v : Value) {fuel : Nat} {listed : Array Bool} {a : Act} {w : World} (hS : S w)
    (h : wpAnyH P md ops Q S fuel (listed.setIfInBounds i true) (a.put (some d) v) w)
    (hi : (ops[i]?.map fun o => (o.dst, o.op, o.guard)) = some (some d, op, none) := by rfl)
    (hs : Region.noSelect ops = true := by kernel_rfl) (hf : Region.free md ops listed i = true := by kernel_rfl) (hr : (Region.ready md ops listed).contains i = true := by kernel_rfl)
    (hQ : ∀ c a w, Q (.panic c) (a.put (some d) v) w → Q (.panic c) a w := by exact fun _ _ _ h => h)
    (hy : ∀ o : Oper, o.op = op → ∀ W, S W → (execOp a.eval o).run P W = .ok (.value v) W := by intro o ho W hW; unfold execOp; simp only [ho]; go_simp) :
    wpAnyH P md ops Q S (fuel + 1) listed a w := anyH_pureG i v hi wantedP hs hf hr hQ hy hS h
theorem aL (i : Nat) {d : Nat} {ty : TypeId} {x : Operand} {p : Value} (v : Value) {fuel : Nat} {listed : Array Bool} {a : Act} {w : World} (hy : ∀ W, S W → (Instr.loadAt ty p).run P W = .ok v W) (hS : S w)
    (h : wpAnyH P md ops Q S fuel (listed.setIfInBounds i true) (a.put (some d) v) w)
    (hi : (ops[i]?.map fun o => (o.dst, o.op, o.guard)) = some (some d, Op.load ty x, none) := by rfl)
    (hs : Region.noSelect ops = true := by kernel_rfl) (hf : Region.free md ops listed i = true := by kernel_rfl) (hr : (Region.ready md ops listed).contains i = true := by kernel_rfl)
    (hQ : ∀ c a w, Q (.panic c) (a.put (some d) v) w → Q (.panic c) a w := by exact fun _ _ _ h => h) (hx : a.eval x = p := by rfl) :
    wpAnyH P md ops Q S (fuel + 1) listed a w := anyH_loadG i v hi wantedP hs hf hr hQ hx hy hS h
end
end Go.Proofs.YtihbgigledmliaaGreat
namespace Go.Proofs.YtihbgigledmliaaGreat.Sha
end Go.Proofs.YtihbgigledmliaaGreat.Sha
namespace Go.Proofs.YtihbgigledmliaaGreat
open Go.RowKit
set_option linter.unusedVariables false
end Go.Proofs.YtihbgigledmliaaGreat
namespace Go.Proofs.YtihbgigledmliaaGreat
open Go.RowKit
set_option linter.unusedVariables false
theorem heap_new (w : World) (o : Obj) : (w.alloc o).heap[w.heap.size]? = some o := by
 show (w.heap.push o)[w.heap.size]? = _
 simp
theorem _root_.Go.RowKit.Below.setRow {B g : Nat} {w wr : World} (h : Below B w wr) (hg : B ≤ g) (cs : Array Value) : Below B w (wr.setRow g cs) :=
 h.trans ⟨rfl, rfl, rfl, by simp, fun k hk => setRow_other wr g k cs (by omega)⟩
end Go.Proofs.YtihbgigledmliaaGreat
namespace Go.Proofs.YtihbgigledmliaaGreat
open Go.RowKit
set_option linter.unusedVariables false
theorem setCells_row (g : Nat) (t : TypeId) : ∀ (vs : List Value) (o : Nat) (cur : List Value) (w : World), w.heap[g]? = some (.cells cur.toArray t (0, 0)) → o + vs.length ≤ cur.length →
  (w.setCells g o vs).heap[g]? = some (.cells (splice cur o vs).toArray t (0, 0))
 | [], o, cur, w, hg, hl => by simpa [World.setCells, splice] using hg
 | v :: r, o, cur, w, hg, hl => by
  rw [World.setCells]
  have h1 := heap_setCell_same w g o _ _ v hg
  rw [List.setIfInBounds_toArray] at h1
  rw [setCells_row g t r (o + 1) (cur.set o v) _ h1 (by simp at hl ⊢; omega)]
  congr 2
  have := list_seg_step cur o v r (by simp at hl; omega)
  unfold splice
  simp only [List.append_assoc] at this
  rw [this]
  simp only [List.cons_append, List.length_cons]
end Go.Proofs.YtihbgigledmliaaGreat
namespace Go.Proofs.YtihbgigledmliaaGreat
open Go.RowKit
end Go.Proofs.YtihbgigledmliaaGreat
namespace Go.Proofs.YtihbgigledmliaaGreat
open Go.RowKit
set_option linter.unusedVariables false
theorem Own.keep {w w' : World} {B : Nat} {v : Value} {zs : List Nat} (h : Own w B v zs) (hb : Below w.heap.size w w') : Own w' B v zs := by
 refine ⟨h.1, ?_⟩
 rcases h.2 with h0 | ⟨g, cap, cur, h1, h2, h3, h4⟩
 ·
  exact .inl h0
 ·
  exact .inr ⟨g, cap, cur, h1, h2, (hb.block g (Array.getElem?_eq_some_iff.1 h3).1).trans h3, h4⟩
end Go.Proofs.YtihbgigledmliaaGreat
namespace Go.Proofs.YtihbgigledmliaaGreat
open Go.RowKit
set_option linter.unusedVariables false
/-- where the bytes from m on lie -/
def sla (a : Option Addr) (cap m : Nat) : Option Addr := if cap = m then a else a.map (·.add m)
theorem sizeOf_u8 (W : World) : (Go.sizeOf 5).run Tryz.prog W = .ok 1 W := by
 obtain ⟨i0, hi, hz0, hz1, hz2⟩ := info_parts byteInfo
 simp [Go.sizeOf, typeInfo, hi, hz1]
theorem elem_bytes : Tryz.prog.elem 38 = 5 := by kernel_rfl
theorem und_bytes : Tryz.prog.underlying 38 = some (.slice (Tryz.prog.elem 38)) := by rw [elem_bytes]; exact Tryz.underlying38
/-- p[m:] -/
theorem run_cut (W : World) (a : Option Addr) (len cap m : Nat) (h : m ≤ len) :
  (Instr.slice 38 (.slice a len cap) (some (.int .i64 (m : Int))) none none).run Tryz.prog W = .ok (.slice (sla a cap m) (len - m) (cap - m)) W := by
 rw [run_slice_l W _ a len cap und_bytes .i64 (m : Int) (by omega) (by omega), elem_bytes, sizeOf_u8]
 simp [Result.andThen, sliced, sla]
theorem run_cutAt (W : World) (a : Option Addr) (len cap m : Nat) (h : m ≤ len) :
  (Instr.sliceAt 38 (.slice a len cap) (some (.int .i64 (m : Int))) none none).run Tryz.prog W = .ok (.slice (sla a cap m) (len - m) (cap - m)) W := by
 rw [run_sliceAt_slice W _ _ _ _ _ und_bytes]
 exact run_cut W a len cap m h
theorem add_zero' (a : Option Addr) : a.map (·.add 0) = a := by
 cases a with
 | none => rfl
 | some a => obtain ⟨b, o, s⟩ := a; cases s <;> simp [Addr.add]
/-- p[:m] -/
theorem run_head (W : World) (a : Option Addr) (len cap m : Nat) (h : m ≤ cap) :
  (Instr.slice 38 (.slice a len cap) none (some (.int .i64 (m : Int))) none).run Tryz.prog W = .ok (.slice a m cap) W := by
 rw [run_slice_h W _ a len cap und_bytes .i64 (m : Int) (by omega) (by omega), elem_bytes, sizeOf_u8]
 simp [Result.andThen, sliced, add_zero']
theorem run_headAt (W : World) (a : Option Addr) (len cap m : Nat) (h : m ≤ cap) :
  (Instr.sliceAt 38 (.slice a len cap) none (some (.int .i64 (m : Int))) none).run Tryz.prog W = .ok (.slice a m cap) W := by
 rw [run_sliceAt_slice W _ _ _ _ _ und_bytes]
 exact run_head W a len cap m h
/-- p[l:m] -/
theorem run_midAt (W : World) (a : Option Addr) (len cap l m : Nat) (h0 : l ≤ m) (h : m ≤ cap) :
  (Instr.sliceAt 38 (.slice a len cap) (some (.int .i64 (l : Int))) (some (.int .i64 (m : Int))) none).run Tryz.prog W = .ok (.slice (sla a cap l) (m - l) (cap - l)) W := by
 rw [run_sliceAt_slice W _ _ _ _ _ und_bytes, run_slice_lh W _ a len cap und_bytes .i64 .i64 (l : Int) (m : Int) (by omega) (by omega) (by omega), elem_bytes, sizeOf_u8]
 simp [Result.andThen, sliced, sla]
theorem sla_none (a : Option Addr) (cap m : Nat) (h : sla a cap m = none) : a = none := by
 unfold sla at h
 split at h
 ·
  exact h
 ·
  cases a <;> simp_all
theorem Rd.cut {w : World} {a : Option Addr} {len : Nat} {zs : List Nat} (h : Rd w a len zs) (cap m : Nat) (hm : m ≤ len) (hc : len ≤ cap) : Rd w (sla a cap m) (len - m) (zs.drop m) := by
 by_cases h0 : len - m = 0
 ·
  exact ⟨by rw [List.length_drop, h.1], fun z hz => h.2.1 z (List.mem_of_mem_drop hz), .inl h0⟩
 ·
  obtain ⟨h1, h2, h3⟩ := h
  rcases h3 with h3 | ⟨b, off, rfl, hb, hcell⟩
  ·
   omega
  ·
   have e : sla (some ⟨b, off, none⟩) cap m = some ⟨b, off + m, none⟩ := by
    unfold sla
    rw [if_neg (by omega)]
    simp [Addr.add]
   rw [e]
   exact Rd.drop ⟨h1, h2, .inr ⟨b, off, rfl, hb, hcell⟩⟩ m
end Go.Proofs.YtihbgigledmliaaGreat
namespace Go.Proofs.YtihbgigledmliaaGreat
open Go.RowKit
set_option linter.unusedVariables false
section
variable {P : Program} {ops : Array Oper} {Q : Exit → Act → World → Prop} {md : Region.Mode}
end
end Go.Proofs.YtihbgigledmliaaGreat
namespace Go.Proofs.YtihbgigledmliaaGreat
open Go.RowKit
set_option linter.unusedVariables false
end Go.Proofs.YtihbgigledmliaaGreat

namespace Go.Proofs.YtihbgigledmliaaGreat
open Go.RowKit
set_option linter.unusedVariables false
section
variable {P : Program} {ops : Array Oper} {Q : Exit → Act → World → Prop} {md : Region.Mode} {S : World → Prop}
theorem op_atJ (i : Nat) {d : Option Tmp} {op : Op} {a : Act} {w : World} {K : Act → World → Prop} (hi : (ops[i]?.map fun o => (o.dst, o.op, o.guard)) = some (d, op, none))
  (h : ∀ o : Oper, o.dst = d → o.op = op → o.wp P a w K Q) : wpOp P ops Q i K a w := by
 cases ho : ops[i]? with
 | none => simp [ho] at hi
 | some o =>
  simp only [ho, Option.map_some, Option.some.injEq, Prod.mk.injEq] at hi
  obtain ⟨g1, g2, g3⟩ := hi
  unfold wpOp
  simp only [ho, wanted_plain g3, if_true]
  exact .inl (h o g1 g2)
theorem wp_load_g {op : Oper} {a : Act} {w : World} {K : Act → World → Prop} (ty : TypeId) (x : Operand) (ho : op.op = .load ty x) (p v : Value) (hx : a.eval x = p) (hrun : (Instr.loadAt ty p).run P w = .ok v w) (h : K (a.put op.dst v) w) : op.wp P a w K Q := by
 unfold Oper.wp execOp
 simp only [ho, hx, Sem.run_bind, hrun, Result.andThen_ok, Sem.run_pure]
 exact h
theorem run_storeVar_one (w : World) (b o : Nat) (ty : TypeId) (v : Value) (ht : w.there b o 1) (hi : (P.info? ty).map (·.size) = some 1) (hv : v.cells = #[v]) (h1 : v.oneCell' = true) :
  (storeVar ty ⟨b, o, none⟩ v).run P w = .ok () (w.setCells b o [v]) := by
 have := run_storeCells_cells (P := P) b o [v] 0 w (fun j hj => by simpa using (ht j (by simpa using hj)).1) (fun j hj => by simpa using (ht j (by simpa using hj)).2)
  (fun u hu => by rw [List.mem_singleton] at hu; subst hu; exact h1)
 cases hq : P.info? ty with
 | none => simp [hq] at hi
 | some i =>
  have hs : i.size = 1 := by simpa [hq] using hi
  simp only [Nat.add_zero] at this
  simp [storeVar, sizeOf, typeInfo, hq, hv, hs, this]
theorem run_storeAt_one (w : World) (b o : Nat) (ty : TypeId) (v : Value) (ht : w.there b o 1) (hi : (P.info? ty).map (·.size) = some 1) (hv : v.cells = #[v]) (h1 : v.oneCell' = true) :
  (Instr.storeAt ty (.pointer (some ⟨b, o, none⟩)) v).run P w = .ok () (w.setCells b o [v]) := by
 simp only [Instr.storeAt, Instr.sureAddr, Sem.run_bind, Sem.run_pure, Result.andThen_ok, run_storeVar_one w b o ty v ht hi hv h1]
theorem wp_store_one {op : Oper} {a : Act} {w : World} {K : Act → World → Prop} (ty : TypeId) (x y : Operand) (ho : op.op = .store ty x y)
  (b o : Nat) (v : Value) (hx : a.eval x = .pointer (some ⟨b, o, none⟩)) (hy : a.eval y = v) (ht : w.there b o 1) (hi : (P.info? ty).map (·.size) = some 1) (hv : v.cells = #[v]) (h1 : v.oneCell' = true)
  (h : K (a.put op.dst undef) (w.setCells b o [v])) : op.wp P a w K Q := by
 unfold Oper.wp execOp
 simp only [ho, hx, hy, Sem.run_bind, run_storeAt_one w b o ty v ht hi hv h1, Result.andThen_ok, Sem.run_pure]
 exact h
end
/-- the cells of a block with one of them changed -/
theorem row_set {W : World} {g o : Nat} {C : Array Value} {t : TypeId} (h : W.heap[g]? = some (.cells C t (0, 0))) (v : Value) (ho : o < C.size) : (W.setCells g o [v]).heap[g]? = some (.cells (C.setIfInBounds o v) t (0, 0)) := by
 have := setCells_row g t [v] o C.toList W (by rw [Array.toArray_toList]; exact h) (by simp; omega)
 rw [this]
 congr 2
 apply Array.ext'
 rw [List.toList_toArray, Array.toList_setIfInBounds]
 unfold splice
 apply List.ext_getElem?
 intro i
 by_cases h1 : i < o
 ·
  rw [List.getElem?_append_left (by simp; omega), List.getElem?_take_of_lt h1, List.getElem?_set_ne (by omega)]
 ·
  by_cases h2 : i = o
  ·
   subst h2
   rw [List.getElem?_append_right (by simp; omega), List.getElem?_set_self (by simpa using ho)]
   simp [Nat.min_eq_left (Nat.le_of_lt ho)]
  ·
   rw [List.getElem?_append_right (by simp; omega), List.getElem?_set_ne (by omega)]
   simp only [List.length_take, Array.length_toList, Nat.min_eq_left (Nat.le_of_lt ho)]
   rw [List.getElem?_append_right (by simp; omega)]
   simp only [List.length_singleton, List.getElem?_drop]
   congr 1
   omega
theorem row_there {W : World} {g o : Nat} {C : Array Value} {t : TypeId} (h : W.heap[g]? = some (.cells C t (0, 0))) (ho : o < C.size) : W.there g o 1 := fun j hj => by
 obtain rfl : j = 0 := by omega
 rw [Nat.add_zero, cell_of_row _ _ _ _ _ _ h, frozen_of_row _ _ _ _ _ h, Array.getElem?_eq_getElem ho]
 exact ⟨rfl, rfl⟩
end Go.Proofs.YtihbgigledmliaaGreat

namespace Go.Proofs.YtihbgigledmliaaGreat
open Go.RowKit Go.Maps
set_option linter.unusedVariables false
abbrev DU := DataW Unit
/-- how a pointer to a file reads: its block -/
def fileR : Value → Option (DU × List MemPlace)
 | .pointer none => some (.nil, [])
 | .pointer (some ⟨b, 0, none⟩) => some (.lit (.int .u64 (b : Int)), [])
 | _ => none
theorem fileR_ptr (b : Nat) : fileR (.pointer (some ⟨b, 0, none⟩)) = some (.lit (.int .u64 (b : Int)), []) := rfl
theorem fileR_inv {v : Value} {d : DU} {ps : List MemPlace} (h : fileR v = some (d, ps)) : (v = .pointer none ∧ d = .nil) ∨ ∃ b : Nat, v = .pointer (some ⟨b, 0, none⟩) ∧ d = .lit (.int .u64 (b : Int)) := by
 unfold fileR at h
 split at h
 ·
  cases h; exact .inl ⟨rfl, rfl⟩
 ·
  cases h; exact .inr ⟨_, rfl, rfl⟩
 ·
  cases h
/-- a file: its name, its slice, its bytes -/
structure Fil where
 nm : ByteArray
 row : Value
 zs : List Nat
/-- a loose change -/
structure Chg where
 kind : Int
 file : Nat
 size : Int
 name : ByteArray
 repl : Option Nat
def Chg.cells (c : Chg) : List Value := [.int .i64 c.kind, .pointer (some ⟨c.file, 0, none⟩), .int .i64 c.size, .string c.name, .pointer (c.repl.map fun b => ⟨b, 0, none⟩)]
def keyS (s : ByteArray) : Lit := .string s.data.toList
theorem keyS_inj {s t : ByteArray} (h : keyS s = keyS t) : s = t := by
 unfold keyS at h
 have := Lit.string.inj h
 cases s; cases t
 congr 1
 exact Array.toList_inj.1 this
structure Dsk where
 room : Int
 used : Int
 fuse : Int
 down : Bool
 mb : Option Nat
 D : DU
 n : Nat
 fl : Nat → Option Fil
 lv : Value
 loose : List Chg
/-- the block of the file with this name -/
def Dsk.at (S : Dsk) (s : ByteArray) : Option Nat := match S.D.atKey (keyS s) .nil with
 | .lit (.int _ b) => some b.toNat
 | _ => none
def dskCells (S : Dsk) : Array Value := #[.int .i64 S.room, .map S.mb, .int .i64 S.used, S.lv, .int .i64 S.fuse, .bool S.down]
def filCells (f : Fil) : Array Value := #[.string f.nm, f.row]
/-- all but the struct -/
structure DKr (B : Nat) (S : Dsk) (w : World) : Prop where
 hm : (S.mb = none ∧ S.D = .map []) ∨ ∃ b, S.mb = some b ∧ B ≤ b ∧ w.ownsMap Tryz.prog 9 fileR b S.n S.D
 hf : ∀ b f, S.fl b = some f → B ≤ b ∧ w.heap[b]? = some (.cells (filCells f) 159 (0, 0)) ∧ Own w B f.row f.zs ∧ (∀ z ∈ f.zs, z < 256)
 ha : ∀ b c f g k, S.fl b = some f → S.fl c = some g → f.row.ownBlock = some k → g.row.ownBlock = some k → b = c
 hr : ∀ s : ByteArray, Maps.has S.D (keyS s) = false ∨ ∃ (b : Nat) (f : Fil), S.D.atKey (keyS s) .nil = .lit (.int .u64 (b : Int)) ∧ S.fl b = some f ∧ f.nm = s
 hl : w.ownsRow B 145 5 S.lv S.loose.length (S.loose.flatMap Chg.cells)
 hc : ∀ c ∈ S.loose, (∃ f, S.fl c.file = some f) ∧ ∀ b, c.repl = some b → ∃ f, S.fl b = some f
structure DK (B d : Nat) (S : Dsk) (w : World) : Prop where
 base : B ≤ d
 hd : w.heap[d]? = some (.cells (dskCells S) 80 (0, 0))
 rest : DKr B S w
/-- the blocks beside the struct -/
def Dsk.ownR (S : Dsk) (k : Nat) : Prop := S.mb = some k ∨ (∃ f, S.fl k = some f) ∨ (∃ b f, S.fl b = some f ∧ f.row.ownBlock = some k) ∨ S.lv.ownBlock = some k
def Dsk.own (S : Dsk) (d k : Nat) : Prop := k = d ∨ S.ownR k
theorem row_keep {w w' : World} {B : Nat} {e : TypeId} {size n : Nat} {v : Value} {xs : List Value} (h : w.ownsRow B e size v n xs) (hk : ∀ k, v.ownBlock = some k → w'.heap[k]? = w.heap[k]?) : w'.ownsRow B e size v n xs := by
 refine ⟨h.1, ?_⟩
 rcases h.2 with hn | ⟨g, cap, cur, rfl, hb, hg, r⟩
 ·
  exact .inl hn
 ·
  exact .inr ⟨g, cap, cur, rfl, hb, (hk g rfl).trans hg, r⟩
theorem row_block {w : World} {B : Nat} {e : TypeId} {size n : Nat} {v : Value} {xs : List Value} (h : w.ownsRow B e size v n xs) {k : Nat} (hk : v.ownBlock = some k) : B ≤ k ∧ ∃ cur, w.heap[k]? = some (.cells cur e (0, 0)) := by
 rcases h.2 with ⟨rfl, _⟩ | ⟨g, cap, cur, rfl, hb, hg, r⟩
 ·
  cases hk
 ·
  have e : g = k := by simpa [Value.ownBlock] using hk
  subst e
  exact ⟨hb, cur, hg⟩
theorem map_keep {w w' : World} {b n : Nat} {D : DU} (h : w.ownsMap Tryz.prog 9 fileR b n D) (hk : w'.heap[b]? = w.heap[b]?) : w'.ownsMap Tryz.prog 9 fileR b n D := by
 obtain ⟨es, clock, hb, r⟩ := h
 exact ⟨es, clock, hk.trans hb, r⟩
theorem map_block {w : World} {b n : Nat} {D : DU} (h : w.ownsMap Tryz.prog 9 fileR b n D) : ∃ es clock, w.heap[b]? = some (.map es clock) := by
 obtain ⟨es, clock, hb, r⟩ := h
 exact ⟨es, clock, hb⟩
theorem DKr.keep {B : Nat} {S : Dsk} {w w' : World} (h : DKr B S w) (hk : ∀ k, S.ownR k → w'.heap[k]? = w.heap[k]?) : DKr B S w' where
 hm := by
  rcases h.hm with h0 | ⟨b, h1, h2, h3⟩
  ·
   exact .inl h0
  ·
   exact .inr ⟨b, h1, h2, map_keep h3 (hk b (.inl h1))⟩
 hf := fun b f hb => by
  obtain ⟨h1, h2, h3, h4⟩ := h.hf b f hb
  exact ⟨h1, (hk b (.inr (.inl ⟨f, hb⟩))).trans h2, row_keep h3 fun k hr => hk k (.inr (.inr (.inl ⟨b, f, hb, hr⟩))), h4⟩
 ha := h.ha
 hr := h.hr
 hl := row_keep h.hl fun k hr => hk k (.inr (.inr (.inr hr)))
 hc := h.hc
/-- what kind of block it is -/
theorem DKr.kind {B : Nat} {S : Dsk} {w : World} (h : DKr B S w) {k : Nat} (hk : S.ownR k) : B ≤ k ∧ k < w.heap.size ∧ ∀ C fr, w.heap[k]? ≠ some (.cells C 80 fr) := by
 have lt : ∀ {o}, w.heap[k]? = some o → k < w.heap.size := fun ho => (Array.getElem?_eq_some_iff.1 ho).1
 rcases hk with h1 | ⟨f, hf⟩ | ⟨b, f, hf, hr⟩ | hl
 ·
  rcases h.hm with ⟨h0, _⟩ | ⟨b, h2, h3, h4⟩
  ·
   rw [h0] at h1; cases h1
  ·
   rw [h1] at h2
   cases h2
   obtain ⟨es, cl, hh⟩ := map_block h4
   exact ⟨h3, lt hh, fun C fr he => by rw [hh] at he; cases he⟩
 ·
  obtain ⟨h1, h2, _⟩ := h.hf k f hf
  exact ⟨h1, lt h2, fun C fr he => by rw [h2] at he; simp only [Option.some.injEq, Obj.cells.injEq] at he; exact absurd he.2.1 (by decide)⟩
 ·
  obtain ⟨_, _, h3, _⟩ := h.hf b f hf
  obtain ⟨h1, cur, hh⟩ := row_block h3 hr
  exact ⟨h1, lt hh, fun C fr he => by rw [hh] at he; simp only [Option.some.injEq, Obj.cells.injEq] at he; exact absurd he.2.1 (by decide)⟩
 ·
  obtain ⟨h1, cur, hh⟩ := row_block h.hl hl
  exact ⟨h1, lt hh, fun C fr he => by rw [hh] at he; simp only [Option.some.injEq, Obj.cells.injEq] at he; exact absurd he.2.1 (by decide)⟩
theorem DK.lt {B d : Nat} {S : Dsk} {w : World} (h : DK B d S w) : d < w.heap.size := (Array.getElem?_eq_some_iff.1 h.hd).1
theorem DK.ne {B d : Nat} {S : Dsk} {w : World} (h : DK B d S w) {k : Nat} (hk : S.ownR k) : k ≠ d := fun e => by subst e; exact (h.rest.kind hk).2.2 _ _ h.hd
theorem DK.ownLt {B d : Nat} {S : Dsk} {w : World} (h : DK B d S w) {k : Nat} (hk : S.own d k) : B ≤ k ∧ k < w.heap.size := by
 rcases hk with rfl | hk
 ·
  exact ⟨h.base, h.lt⟩
 ·
  exact ⟨(h.rest.kind hk).1, (h.rest.kind hk).2.1⟩
theorem DK.keep {B d : Nat} {S : Dsk} {w w' : World} (h : DK B d S w) (hk : ∀ k, S.own d k → w'.heap[k]? = w.heap[k]?) : DK B d S w' := ⟨h.base, (hk d (.inl rfl)).trans h.hd, h.rest.keep fun k hr => hk k (.inr hr)⟩
theorem DK.below {B d : Nat} {S : Dsk} {w w' : World} (h : DK B d S w) (hb : Below w.heap.size w w') : DK B d S w' := h.keep fun k hk => hb.block k (h.ownLt hk).2
theorem DK.alloc {B d : Nat} {S : Dsk} {w : World} (h : DK B d S w) (o : Obj) : DK B d S (w.alloc o) := h.below ((Below.refl _ _).alloc (Nat.le_refl _) o)
/-- the struct alone is written: numbers, the power -/
theorem DK.struct {B d : Nat} {S S' : Dsk} {w w' : World} (h : DK B d S w) (hh : w'.heap[d]? = some (.cells (dskCells S') 80 (0, 0))) (ho : ∀ k, k ≠ d → k < w.heap.size → w'.heap[k]? = w.heap[k]?) (e : S' = { S with room := S'.room, used := S'.used, fuse := S'.fuse, down := S'.down }) : DK B d S' w' := by
 have hr : DKr B S w' := h.rest.keep fun k hk => ho k (h.ne hk) (h.rest.kind hk).2.1
 rw [e] at hh ⊢
 exact ⟨h.base, hh, hr.hm, hr.hf, hr.ha, hr.hr, hr.hl, hr.hc⟩
/-- what is not the disk's stands -/
structure Mov (S : Dsk) (d : Nat) (S' : Dsk) (w w' : World) : Prop where
 os : w'.os = w.os
 tape : w'.tape = w.tape
 output : w'.output = w.output
 size : w.heap.size ≤ w'.heap.size
 block : ∀ k, k < w.heap.size → ¬ S.own d k → w'.heap[k]? = w.heap[k]?
 own : ∀ k, S'.own d k → S.own d k ∨ w.heap.size ≤ k
theorem Mov.refl (S : Dsk) (d : Nat) (w : World) : Mov S d S w w := ⟨rfl, rfl, rfl, Nat.le_refl _, fun _ _ _ => rfl, fun _ h => .inl h⟩
theorem Mov.trans {S S1 S2 : Dsk} {d : Nat} {w w1 w2 : World} (h : Mov S d S1 w w1) (k : Mov S1 d S2 w1 w2) : Mov S d S2 w w2 :=
 ⟨k.os.trans h.os, k.tape.trans h.tape, k.output.trans h.output, Nat.le_trans h.size k.size, fun j hj hn => (k.block j (Nat.lt_of_lt_of_le hj h.size) fun ho => by
   rcases h.own j ho with h1 | h1
   ·
    exact hn h1
   ·
    omega).trans (h.block j hj hn), fun j hj => by
   rcases k.own j hj with h1 | h1
   ·
    exact h.own j h1
   ·
    exact .inr (Nat.le_trans h.size h1)⟩
theorem Mov.below {S S' : Dsk} {B d : Nat} {w w' : World} (h : Mov S d S' w w') (hd : DK B d S w) : Below B w w' :=
 ⟨h.os, h.tape, h.output, h.size, fun k hk => h.block k (Nat.lt_of_lt_of_le hk (Nat.le_trans hd.base (Nat.le_of_lt hd.lt))) fun ho => by have := (hd.ownLt ho).1; omega⟩
theorem Mov.ofBelow {S : Dsk} {d : Nat} {w w' : World} (hb : Below w.heap.size w w') : Mov S d S w w' := ⟨hb.os, hb.tape, hb.output, hb.size, fun k hk _ => hb.block k hk, fun _ h => .inl h⟩
end Go.Proofs.YtihbgigledmliaaGreat
namespace Go.Proofs.YtihbgigledmliaaGreat
open Go.RowKit Go.Maps
set_option linter.unusedVariables false
theorem mapLaw : Keyed Tryz.prog 9 := string_keyed Tryz.underlying9
theorem zeroFile (w : World) : (zeroValue 143).run Tryz.prog w = .ok (.pointer none) w := by kernel_rfl
theorem keyOk {s : ByteArray} (hs : s.size ≤ maxLen) : keyOf Tryz.prog 9 (.string s) = some (keyS s) := Go.WideMaps.keyOf_string_mk Tryz.underlying9 hs
def ptrOf (b : Option Nat) : Value := .pointer (b.map fun b => ⟨b, 0, none⟩)
theorem DKr.at {B : Nat} {S : Dsk} {w : World} (h : DKr B S w) {s : ByteArray} {b : Nat} (hb : S.at s = some b) : ∃ f, S.fl b = some f ∧ f.nm = s := by
 unfold Dsk.at at hb
 rcases h.hr s with h0 | ⟨c, f, h1, h2, h3⟩
 ·
  rw [atKey_of_not_has h0] at hb; cases hb
 ·
  rw [h1] at hb
  have e : c = b := by simpa using hb
  subst e
  exact ⟨f, h2, h3⟩
theorem DKr.look {B : Nat} {S : Dsk} {w : World} (h : DKr B S w) {s : ByteArray} (hs : s.size ≤ maxLen) : (Instr.lookup 77 (.map S.mb) (.string s) false).run Tryz.prog w = .ok (ptrOf (S.at s)) w := by
 rcases h.hm with ⟨h1, h2⟩ | ⟨b, h1, _, h3⟩
 ·
  rw [h1]
  have := Maps.look_nil (P := Tryz.prog) (w := w) false mapLaw Tryz.underlying77 (zeroFile w) (keyOk hs)
  rw [this]
  have e : S.at s = none := by unfold Dsk.at; rw [h2]; rfl
  rw [e]
  rfl
 ·
  rw [h1]
  obtain ⟨v, ps, hrun, hv⟩ := h3.lookup mapLaw Tryz.underlying77 (zeroFile w) (zd := .nil) (zp := []) rfl (keyOk hs)
  rw [hrun]
  unfold Dsk.at
  rcases fileR_inv hv with ⟨rfl, hd⟩ | ⟨c, rfl, hd⟩
  ·
   rw [hd]; rfl
  ·
   rw [hd]; simp [ptrOf]
theorem DKr.len {B : Nat} {S : Dsk} {w : World} (h : DKr B S w) (ty : TypeId) : (Builtin.len_ #[77] ty #[.map S.mb]).run Tryz.prog w = .ok (.int .i64 (Maps.size S.D)) w := by
 rcases h.hm with ⟨h1, h2⟩ | ⟨b, h1, _, h3⟩
 ·
  rw [h1, h2, Maps.len_nil Tryz.underlying77]
  rfl
 ·
  rw [h1]
  exact h3.len Tryz.underlying77 ty
theorem DK.cells {B d : Nat} {S : Dsk} {w : World} (h : DK B d S w) : w.cell? ⟨d, 0, none⟩ = some (.int .i64 S.room) ∧ w.cell? ⟨d, 1, none⟩ = some (.map S.mb) ∧ w.cell? ⟨d, 2, none⟩ = some (.int .i64 S.used) ∧ w.cell? ⟨d, 3, none⟩ = some S.lv ∧ w.cell? ⟨d, 4, none⟩ = some (.int .i64 S.fuse) ∧ w.cell? ⟨d, 5, none⟩ = some (.bool S.down) := by
 have k : ∀ i, w.cell? ⟨d, i, none⟩ = (dskCells S)[i]? := fun i => cell_of_row w d i _ _ _ h.hd
 exact ⟨(k 0).trans rfl, (k 1).trans rfl, (k 2).trans rfl, (k 3).trans rfl, (k 4).trans rfl, (k 5).trans rfl⟩
theorem DKr.fcells {B : Nat} {S : Dsk} {w : World} (h : DKr B S w) {b : Nat} {f : Fil} (hf : S.fl b = some f) : w.cell? ⟨b, 0, none⟩ = some (.string f.nm) ∧ w.cell? ⟨b, 1, none⟩ = some f.row := by
 have hh := (h.hf b f hf).2.1
 have k : ∀ i, w.cell? ⟨b, i, none⟩ = (filCells f)[i]? := fun i => cell_of_row w b i _ _ _ hh
 exact ⟨(k 0).trans rfl, (k 1).trans rfl⟩
set_option maxRecDepth 100000 in
theorem dready_c {B d : Nat} {S : Dsk} {w : World} (h : DK B d S w) : Calls Tryz.prog 77 #[.pointer (some ⟨d, 0, none⟩)] w fun e w' => e = .returned (.int .i64 (if S.down then 5 else 0)) ∧ w' = w := by
 have c5 := h.cells.2.2.2.2.2
 clear h
 cases hd : S.down with
 | true =>
  rw [hd] at c5
  go_enter Tryz.func77, Tryz.ntmps77
  go_wp2
  go_ret
  exact ⟨rfl, rfl⟩
 | false =>
  rw [hd] at c5
  go_enter Tryz.func77, Tryz.ntmps77
  go_wp2
  go_ret
  exact ⟨rfl, rfl⟩
/-- what find answers -/
def Dsk.find (S : Dsk) (s : ByteArray) : Option Nat × Int := if S.down then (none, 5) else match S.at s with
 | none => (none, 6)
 | some b => (some b, 0)
set_option maxRecDepth 100000 in
theorem dfind_c {B d : Nat} {S : Dsk} {w : World} (h : DK B d S w) (s : ByteArray) (hs : s.size ≤ maxLen) : Calls Tryz.prog 91 #[.pointer (some ⟨d, 0, none⟩), .string s] w fun e w' => e = .returned (.tuple #[ptrOf (S.find s).1, .int .i64 (S.find s).2]) ∧ w' = w := by
 have c1 := h.cells.2.1
 have hlk := h.rest.look hs
 have HR := Lib.hid (dready_c h)
 clear h
 unfold Dsk.find
 cases hd : S.down with
 | true =>
  rw [hd] at HR
  go_enter Tryz.func91, Tryz.ntmps91
  go_wp2_with fail
  refine HR.out.mono ?_
  rintro e1 w1 ⟨rfl, rfl⟩
  go_wp2_with fail
  go_ret2
  exact ⟨rfl, rfl⟩
 | false =>
  rw [hd] at HR
  cases ha : S.at s with
  | none =>
   rw [ha] at hlk
   simp only [ptrOf, Option.map_none] at hlk
   go_enter Tryz.func91, Tryz.ntmps91
   go_wp2_with fail
   refine HR.out.mono ?_
   rintro e1 w1 ⟨rfl, rfl⟩
   go_wp2_with fail
   go_ret2
   exact ⟨rfl, rfl⟩
  | some b =>
   rw [ha] at hlk
   simp only [ptrOf, Option.map_some] at hlk
   go_enter Tryz.func91, Tryz.ntmps91
   go_wp2_with fail
   refine HR.out.mono ?_
   rintro e1 w1 ⟨rfl, rfl⟩
   go_wp2_with fail
   go_ret2
   exact ⟨rfl, rfl⟩
/-- what a step does -/
def Dsk.step (S : Dsk) : Dsk × Int := if S.fuse = 0 then ({ S with down := true }, 5) else if 0 < S.fuse then ({ S with fuse := wrap64 (S.fuse - 1) }, 0) else (S, 0)
set_option maxRecDepth 100000 in
theorem dstep_c {B d : Nat} {S : Dsk} {w : World} (h : DK B d S w) : Calls Tryz.prog 92 #[.pointer (some ⟨d, 0, none⟩)] w fun e w' => e = .returned (.int .i64 S.step.2) ∧ DK B d S.step.1 w' ∧ Mov S d S.step.1 w w' := by
 have c4 := h.cells.2.2.2.2.1
 have c5 := h.cells.2.2.2.2.2
 have hfz : ∀ i, w.frozen? ⟨d, i, none⟩ = false := fun i => frozen_of_row w d i _ _ h.hd
 have f4 := hfz 4
 have f5 := hfz 5
 have HD := Lib.hid h
 have mk : ∀ (i : Nat) (v : Value) (S' : Dsk), (dskCells S).setIfInBounds i v = dskCells S' → i < 6 → S' = { S with room := S'.room, used := S'.used, fuse := S'.fuse, down := S'.down } → S'.mb = S.mb ∧ S'.fl = S.fl ∧ S'.lv = S.lv → DK B d S' (w.setCell ⟨d, i, none⟩ v) ∧ Mov S d S' w (w.setCell ⟨d, i, none⟩ v) := by
  intro i v S' he hi e ⟨e1, e2, e3⟩
  have hh := row_set HD.out.hd v (o := i) hi
  rw [he] at hh
  have ho : ∀ k, k ≠ d → (w.setCell ⟨d, i, none⟩ v).heap[k]? = w.heap[k]? := fun k hk => Below.heap_setCell w ⟨d, i, none⟩ v k hk
  exact ⟨HD.out.struct hh (fun k hk _ => ho k hk) e, rfl, rfl, rfl, by simp [World.setCell], fun k hk hn => ho k fun e => hn (.inl e), fun k hk => .inl (by unfold Dsk.own Dsk.ownR at hk ⊢; rw [e1, e2, e3] at hk; exact hk)⟩
 have HM := Lib.hid mk
 clear h hfz mk
 unfold Dsk.step
 by_cases h0 : S.fuse = 0
 ·
  rw [if_pos h0]
  rw [h0] at c4
  clear h0
  go_enter Tryz.func92, Tryz.ntmps92
  go_wp2_with fail
  go_ret
  exact ⟨rfl, HM.out 5 (.bool true) { S with down := true } rfl (by omega) rfl ⟨rfl, rfl, rfl⟩⟩
 ·
  rw [if_neg h0]
  have e0 : (S.fuse == 0) = false := beq_eq_false_iff_ne.2 h0
  by_cases h1 : 0 < S.fuse
  ·
   rw [if_pos h1]
   go_enter Tryz.func92, Tryz.ntmps92
   go_wp2_with fail
   go_ret
   exact ⟨rfl, HM.out 4 _ { S with fuse := wrap64 (S.fuse - 1) } rfl (by omega) rfl ⟨rfl, rfl, rfl⟩⟩
  ·
   rw [if_neg h1]
   go_enter Tryz.func92, Tryz.ntmps92
   go_wp2_with fail
   go_ret
   exact ⟨rfl, HD.out, Mov.refl _ _ _⟩
set_option maxRecDepth 100000 in
theorem isname_c (s : ByteArray) (w : World) (hs : s.size ≤ maxLen) : Calls Tryz.prog 34 #[.string s] w fun e w' => e = .returned (.bool (decide (1 ≤ s.size) && decide (s.size ≤ 160))) ∧ w' = w := by
 unfold maxLen at hs
 by_cases h1 : 1 ≤ s.size
 ·
  by_cases h2 : s.size ≤ 160
  ·
   rw [decide_eq_true h1, decide_eq_true h2]
   have i1 : (1 : Int) ≤ (s.size : Int) := by omega
   have i2 : (s.size : Int) ≤ 160 := by omega
   go_enter Tryz.func34, Tryz.ntmps34
   go_wp2_with fail
   go_ret
   exact ⟨rfl, rfl⟩
  ·
   rw [decide_eq_true h1, decide_eq_false h2]
   have i1 : (1 : Int) ≤ (s.size : Int) := by omega
   have i2 : ¬ (s.size : Int) ≤ 160 := by omega
   go_enter Tryz.func34, Tryz.ntmps34
   go_wp2_with fail
   go_ret
   exact ⟨rfl, rfl⟩
 ·
  rw [decide_eq_false h1]
  have i1 : ¬ (1 : Int) ≤ (s.size : Int) := by omega
  go_enter Tryz.func34, Tryz.ntmps34
  go_wp2_with fail
  go_ret
  exact ⟨rfl, rfl⟩
/-- a new disk -/
def newS (room : Int) : Dsk := ⟨room, 0, -1, false, none, .map [], 0, fun _ => none, .slice none 0 0, []⟩
theorem newS_row (w : World) (B : Nat) (room : Int) : DKr B (newS room) w where
 hm := .inl ⟨rfl, rfl⟩
 hf := fun b f h => by cases h
 ha := fun b c f g k h => by cases h
 hr := fun s => .inl rfl
 hl := World.ownsRow_nil _ _ _ _
 hc := fun c h => by cases h
set_option maxRecDepth 100000 in
theorem dnew_c (room : Int) (w : World) (h0 : 0 ≤ room) (h1 : room ≤ 67108864) : Calls Tryz.prog 6 #[.int .i64 room] w fun e w' => e = .returned (.tuple #[.pointer (some ⟨w.heap.size, 0, none⟩), .int .i64 0]) ∧ DK w.heap.size w.heap.size (newS room) w' ∧ Below w.heap.size w w' := by
 have i0 : ¬ room < 0 := by omega
 have i1 : ¬ 67108864 < room := by omega
 go_enter Tryz.func6, Tryz.ntmps6
 go_wp2_with fail
 go_ret2
 exact ⟨rfl, ⟨Nat.le_refl _, heap_alloc_new w _, newS_row _ _ _⟩, (Below.refl _ _).alloc (Nat.le_refl _) _⟩
end Go.Proofs.YtihbgigledmliaaGreat

namespace Go.Proofs.YtihbgigledmliaaGreat
set_option linter.unusedVariables false
open Go.RowKit
/-- but for the blocks D and D + 1 all stands -/
structure KeepL (D : Nat) (W W' : World) : Prop where
 os : W'.os = W.os
 tape : W'.tape = W.tape
 output : W'.output = W.output
 size : W.heap.size ≤ W'.heap.size
 blk : ∀ b, b ≠ D → b ≠ D + 1 → W'.heap[b]? = W.heap[b]?
theorem KeepL.putObj {W : World} {D : Nat} (o : Obj) (h : D + 1 < W.heap.size) : KeepL D W (W.putObj (D + 1) o) :=
 ⟨rfl, rfl, rfl, by simp [World.putObj], fun b _ h2 => World.putObj_heap_other h2⟩
theorem KeepL.new (w : World) (o o' : Obj) : KeepL w.heap.size w ((w.alloc o).alloc o') :=
 ⟨rfl, rfl, rfl, by simp; omega, fun b h1 h2 => by
  by_cases hb : b < w.heap.size
  ·
   exact (Below.heap_alloc _ _ _ (by simp; omega)).trans (Below.heap_alloc _ _ _ hb)
  ·
   rw [Array.getElem?_eq_none (by simp; omega), Array.getElem?_eq_none (by omega)]⟩
/-- how a round may be left: it goes on, or returns -/
def roundM {α : Type} (D : Nat) (I Ix : List α → World → Prop) (xs : List α) (W : World) : Exit → Act → World → Prop
 | .normal, _, W' => W'.heap[D]? = W.heap[D]? ∧ W'.heap[D + 1]? = W.heap[D + 1]? ∧ I xs W'
 | .ret, _, W' => W'.heap[D]? = W.heap[D]? ∧ W'.heap[D + 1]? = W.heap[D + 1]? ∧ Ix xs W'
 | _, _, _ => False
theorem range_mem {F : Fence} {n : Nat} {P : Program} {g : Operand} {ps : Array Tmp} {assign body : Code} {Q : Exit → Act → World → Prop} {a : Act} {w : World}
  (hro : F.round = none) (h1 : 1 ≤ n) {gf : Nat} {lb : Array Value} (hg : a.eval g = .func (.func gf) #[] lb) (hFg : F.fn gf) (eg : ∀ args w, (callFunc gf args).run P w = .ok (.enter gf args) w)
  {α : Type} {enc : α → Array Value} (S : List α) (Px : List α → α → Prop) (It : World → Prop) (hps : ∀ x, (enc x).size = ps.size)
  (hseq : ∀ (l : Nat) (J Jx : List α → World → Prop) (W : World), (∀ s W, J s W → It W) →
   (∀ pre x W1, J pre W1 → Px pre x → YieldAt F (n - 1 - 1) P l (enc x) W1 fun e W' => (e = .returned (.bool true) ∧ J (pre ++ [x]) W') ∨ (e = .returned (.bool false) ∧ Jx (pre ++ [x]) W')) →
   J [] W → CallsIn F (n - 1) P gf (#[.func (.yield l) #[] #[]] ++ lb) W fun e W' => (∃ v, e = .returned v) ∧ (J S W' ∨ ∃ pre, Jx pre W'))
  (I Ix : List α → World → Prop) (hI : ∀ s W W', KeepL w.heap.size W W' → I s W → I s W') (hIx : ∀ s W W', KeepL w.heap.size W W' → Ix s W → Ix s W') (hIt : ∀ s W, I s W → It W) (h0 : I [] w)
  (M : List α → α → Act → World → Prop) (hM : ∀ s x a W W', KeepL w.heap.size W W' → M s x a W → M s x a W')
  (hassign : ∀ (l : Nat) (pre : List α) (x : α) (W : World), I pre W → Px pre x → w.heap.size + 1 < W.heap.size →
   assign.wpIn (F.inRound l) (n - 1 - 1) P (Exit.then (fun a1 W1 => W1.heap[w.heap.size]? = W.heap[w.heap.size]? ∧ W1.heap[w.heap.size + 1]? = W.heap[w.heap.size + 1]? ∧ M pre x a1 W1) (fun _ _ _ => False)) { tmps := (ps.zip (enc x)).foldl (fun t (p, v) => t.setIfInBounds p v) a.tmps, defers := [] } W)
  (hbody : ∀ (l : Nat) (pre : List α) (x : α) (a1 : Act) (W : World), M pre x a1 W → Px pre x → w.heap.size + 1 < W.heap.size → body.wpIn (F.inRound l) (n - 1 - 1) P (roundM w.heap.size I Ix (pre ++ [x]) W) a1 W)
  (hdone : ∀ (D : Nat) (W : World), D = w.heap.size → I S W → W.heap[D]? = some (.deferred (some [])) → Q .normal { a with defers := { target := .collected D, args := #[] } :: a.defers } W)
  (hstop : ∀ (D : Nat) (pre : List α) (W : World), D = w.heap.size → Ix pre W → W.heap[D]? = some (.deferred (some [])) → Code.ret.wpIn F n P Q { a with defers := { target := .collected D, args := #[] } :: a.defers } W) :
  (Code.rangeFunc g ps assign body).wpIn F n P Q a w := by
 refine wpIn_rangeFunc ?_
 intro fn hfn
 rw [hro]
 obtain ⟨rec, hrec⟩ : ∃ rec : LoopState → Option Code → Loop, rec = fun st pe => { state := st, pending := pe, fn, tmps := a.tmps, params := ps, assign, body, defers := w.heap.size } := ⟨_, rfl⟩
 obtain ⟨D, hD⟩ : ∃ D, D = w.heap.size := ⟨_, rfl⟩
 obtain ⟨W1, hW1⟩ : ∃ W1, W1 = (w.alloc (.deferred (some []))).alloc (.loop (rec .ready none)) := ⟨_, rfl⟩
 have hl1 : W1.heap[D + 1]? = some (.loop (rec .ready none)) := by
  have h := World.alloc_heap_new (w.alloc (.deferred (some []))) (.loop (rec .ready none))
  rw [World.size_alloc] at h
  rw [hW1, hD]
  exact h
 have hk1 : W1.heap[D]? = some (.deferred (some [])) := by
  rw [hW1, hD]
  exact (Below.heap_alloc _ _ _ (by simp)).trans (World.alloc_heap_new w _)
 have hi1 : I [] W1 := by rw [hW1]; exact hI _ _ _ (KeepL.new w _ _) h0
 refine ⟨D + 1, [{ target := .collected D, args := #[] }], W1, { target := .fn (.func gf) lb, args := #[.func (.yield (D + 1)) #[] #[]] }, W1, gf, #[.func (.yield (D + 1)) #[] #[]] ++ lb, W1, ?_, ?_, ?_, ?_, fun _ => h1, ?_⟩
 ·
  rw [hW1, hrec, hD]; exact run_enterLoop_outer _ _ _ _ _
 ·
  simp only [resolve, hg]
  simp [go_sem]
 ·
  intro f' hf'
  simp [Target.leads] at hf'
  subst hf'
  exact hFg
 ·
  simp [invoke, go_sem, eg]
 refine (hseq (D + 1) (fun pre W => I pre W ∧ W.heap[D + 1]? = some (.loop (rec .ready none)) ∧ W.heap[D]? = some (.deferred (some [])))
  (fun pre W => Ix pre W ∧ W.heap[D + 1]? = some (.loop (rec .done (some .ret))) ∧ W.heap[D]? = some (.deferred (some []))) W1 (fun s W hs => hIt s W hs.1) ?_ ⟨hi1, hl1, hk1⟩).mono ?_
 ·
  rintro pre x W ⟨hi, hl, hk⟩ hpx
  have hlt : D + 1 < W.heap.size := (Array.getElem?_eq_some_iff.1 hl).1
  have hy := run_yield (P := P) (args := enc x) hl (by rw [hrec]; simpa using (hps x))
  rw [hrec] at hy
  refine ⟨fn, _, assign, body, hy, roundIn_of_wpIn hfn (wpIn_mono (hassign (D + 1) pre x W hi hpx (by rw [← hD]; exact hlt)) ?_)⟩
  rintro e0 a1 Wa hea
  cases e0 with
  | exit id => exact hea.elim
  | goto t => exact hea.elim
  | ret => exact hea.elim
  | panic ch => exact hea.elim
  | outgrown => exact hea.elim
  | normal =>
  obtain ⟨hda, hla, hma⟩ := hea
  rw [← hD] at hda hla
  replace hl := hla.trans hl
  replace hk := hda.trans hk
  have hlt : D + 1 < Wa.heap.size := (Array.getElem?_eq_some_iff.1 hl).1
  refine ⟨_, run_beginRound hl (by rw [hrec]), ?_⟩
  obtain ⟨W2, hW2⟩ : ∃ W2, W2 = Wa.putObj (D + 1) (.loop { rec .ready none with state := .busy }) := ⟨_, rfl⟩
  rw [← hW2]
  have hl2 : W2.heap[D + 1]? = some (.loop { rec .ready none with state := .busy }) := by rw [hW2]; exact World.putObj_heap_same hlt
  have hk2 : W2.heap[D]? = some (.deferred (some [])) := by rw [hW2]; exact (World.putObj_heap_other (by omega)).trans hk
  have hm2 : M pre x a1 W2 := by rw [hW2]; exact hM _ _ _ _ _ (by rw [← hD]; exact KeepL.putObj _ hlt) hma
  have hlt2 : w.heap.size + 1 < W2.heap.size := by rw [← hD]; exact (Array.getElem?_eq_some_iff.1 hl2).1
  refine wpIn_mono (hbody (D + 1) pre x a1 W2 hm2 hpx hlt2) ?_
  have fin : ∀ (jump : Option Code) (W3 : World), W3.heap[D]? = W2.heap[D]? → W3.heap[D + 1]? = W2.heap[D + 1]? →
    (Instr.endRound (D + 1) jump).run P W3 = .ok (.bool jump.isNone) (W3.putObj (D + 1) (.loop (rec (if jump.isNone then .ready else .done) jump))) ∧
    D + 1 < W3.heap.size ∧
    (W3.putObj (D + 1) (.loop (rec (if jump.isNone then .ready else .done) jump))).heap[D + 1]? = some (.loop (rec (if jump.isNone then .ready else .done) jump)) ∧
    (W3.putObj (D + 1) (.loop (rec (if jump.isNone then .ready else .done) jump))).heap[D]? = some (.deferred (some [])) := fun jump W3 hd3 hl3' => by
   have hl3 := hl3'.trans hl2
   have h := run_endRound (P := P) jump hl3
   rw [hrec] at h ⊢
   have hlt3 := (Array.getElem?_eq_some_iff.1 hl3).1
   exact ⟨h, hlt3, World.putObj_heap_same hlt3, (World.putObj_heap_other (by omega)).trans (hd3.trans hk2)⟩
  rintro e a3 W3 hp
  cases e with
  | normal =>
   obtain ⟨hd3, hl3, hi3⟩ := hp
   rw [← hD] at hd3 hl3
   obtain ⟨hr, hlt3, hl4, hk4⟩ := fin none W3 hd3 hl3
   exact ⟨_, _, hr, .inl ⟨rfl, hI _ _ _ (by rw [← hD]; exact KeepL.putObj _ hlt3) hi3, hl4, hk4⟩⟩
  | ret =>
   obtain ⟨hd3, hl3, hi3⟩ := hp
   rw [← hD] at hd3 hl3
   obtain ⟨hr, hlt3, hl4, hk4⟩ := fin (some .ret) W3 hd3 hl3
   exact ⟨_, _, hr, .inr ⟨rfl, hIx _ _ _ (by rw [← hD]; exact KeepL.putObj _ hlt3) hi3, hl4, hk4⟩⟩
  | exit id => exact hp.elim
  | goto t => exact hp.elim
  | panic ch => exact hp.elim
  | outgrown => exact hp.elim
 ·
  rintro e W2 ⟨⟨v, rfl⟩, (⟨hi, hl, hk⟩ | ⟨pre, hi, hl, hk⟩)⟩
  ·
   have hlt := (Array.getElem?_eq_some_iff.1 hl).1
   exact ⟨none, _, by have h := run_endLoop (P := P) hl (by rw [hrec]; simp); rw [hrec] at h; exact h, by
    rw [hD] at hk hl ⊢
    exact hdone _ _ rfl (hI _ _ _ (KeepL.putObj _ (by rw [← hD]; exact hlt)) hi) ((World.putObj_heap_other (by omega)).trans hk)⟩
  ·
   have hlt := (Array.getElem?_eq_some_iff.1 hl).1
   exact ⟨some .ret, _, by have h := run_endLoop (P := P) hl (by rw [hrec]; simp); rw [hrec] at h; exact h, by
    rw [hD] at hk hl ⊢
    exact hstop _ pre _ rfl (hIx _ _ _ (KeepL.putObj _ (by rw [← hD]; exact hlt)) hi) ((World.putObj_heap_other (by omega)).trans hk)⟩
end Go.Proofs.YtihbgigledmliaaGreat

namespace Go.Proofs.YtihbgigledmliaaGreat
open Go.RowKit
set_option linter.unusedVariables false
attribute [local go_sem] Oper.semAt_some
set_option maxRecDepth 100000 in
theorem back_c (a : Option Addr) (n c : Nat) (w : World) : Calls Tryz.prog 78 #[.slice a n c] w fun e w' => e = .returned (.func (.func 115) #[] #[.pointer (some ⟨w.heap.size, 0, none⟩)]) ∧ w' = w.alloc (.cells #[.slice a n c] 78) := by
 go_enter Tryz.func78, Tryz.ntmps78
 go_wp2
 go_ret
 exact ⟨rfl, rfl⟩
theorem wp_safe {P : Program} {c : Code} {K : Act → World → Prop} {Q : Exit → Act → World → Prop} {a : Act} {w : World} (h : c.wp P (Exit.then K (fun _ _ _ => False)) a w) : c.wp P (Exit.then K Q) a w :=
 wp_mono h fun e a w he => by cases e with | normal => exact he | _ => exact he.elim
theorem run_cell_disk (W : World) (a : Addr) (v : Option Addr) (hc : W.cell? a = some (.pointer v)) : (Instr.loadAt 25 (.pointer (some a))).run Tryz.prog W = .ok (.pointer v) W := by go_simp
theorem run_cell_chgs (W : World) (a : Addr) (v : Option Addr) (l c : Nat) (hc : W.cell? a = some (.slice v l c)) : (Instr.loadAt 78 (.pointer (some a))).run Tryz.prog W = .ok (.slice v l c) W := by go_simp
theorem elem_chgs : Tryz.prog.elem 78 = 145 := by kernel_rfl
theorem und_chgs : Tryz.prog.underlying 78 = some (.slice (Tryz.prog.elem 78)) := by rw [elem_chgs]; exact Tryz.underlying78
theorem sizeOf_chg (W : World) : (Go.sizeOf 145).run Tryz.prog W = .ok 5 W := by
 have h : (Tryz.prog.info? 145).map (·.size) = some 5 := by kernel_rfl
 cases hq : Tryz.prog.info? 145 with
 | none => simp [hq] at h
 | some i =>
  have : i.size = 5 := by simpa [hq] using h
  simp [Go.sizeOf, typeInfo, hq, this]
theorem one_cell {W : World} {g o R : Nat} {v : Value} (h : R ≠ g) : (W.setCells g o [v]).cell? ⟨R, 0, none⟩ = W.cell? ⟨R, 0, none⟩ := World.cell?_setCell_other _ _ _ _ (by intro e; cases e; exact h rfl)
theorem one_heap {W : World} {g o R : Nat} {v : Value} (h : R ≠ g) : (W.setCells g o [v]).heap[R]? = W.heap[R]? := RowKit.Below.heap_setCell W ⟨g, o, none⟩ v R h
theorem KeepL.cell {D : Nat} {W W' : World} (h : KeepL D W W') {a : Addr} (h1 : a.block ≠ D) (h2 : a.block ≠ D + 1) : W'.cell? a = W.cell? a := World.cell?_of_block (w := W) (h.blk _ h1 h2)
end Go.Proofs.YtihbgigledmliaaGreat

namespace Go.Proofs.YtihbgigledmliaaGreat
open Go.RowKit Go.Maps
set_option linter.unusedVariables false
theorem run_cell_map (W : World) (a : Addr) (v : Option Nat) (hc : W.cell? a = some (.map v)) : (Instr.loadAt 77 (.pointer (some a))).run Tryz.prog W = .ok (.map v) W := by go_simp
theorem run_cell_s (W : World) (a : Addr) (v : ByteArray) (hc : W.cell? a = some (.string v)) : (Instr.loadAt 9 (.pointer (some a))).run Tryz.prog W = .ok (.string v) W := by go_simp
theorem run_cell_i (W : World) (a : Addr) (v : Int) (hc : W.cell? a = some (.int .i64 v)) : (Instr.loadAt 3 (.pointer (some a))).run Tryz.prog W = .ok (.int .i64 v) W := by go_simp
theorem run_cell_b (W : World) (a : Addr) (v : Option Addr) (l c : Nat) (hc : W.cell? a = some (.slice v l c)) : (Instr.loadAt 38 (.pointer (some a))).run Tryz.prog W = .ok (.slice v l c) W := by go_simp
theorem DK.cellSet {B d : Nat} {S : Dsk} {w : World} (h : DK B d S w) (i : Nat) (v : Value) (S' : Dsk) (he : (dskCells S).setIfInBounds i v = dskCells S') (hi : i < 6) (e : S' = { S with room := S'.room, used := S'.used, fuse := S'.fuse, down := S'.down }) (e3 : S'.mb = S.mb ∧ S'.fl = S.fl ∧ S'.lv = S.lv) : DK B d S' (w.setCells d i [v]) ∧ Mov S d S' w (w.setCells d i [v]) ∧ w.there d i 1 := by
 obtain ⟨e1, e2, e3⟩ := e3
 have hh := row_set h.hd v (o := i) hi
 rw [he] at hh
 have ho : ∀ k, k ≠ d → (w.setCells d i [v]).heap[k]? = w.heap[k]? := fun k hk => Below.heap_setCell w ⟨d, i, none⟩ v k hk
 exact ⟨h.struct hh (fun k hk _ => ho k hk) e, ⟨rfl, rfl, rfl, by show w.heap.size ≤ (w.setCell ⟨d, i, none⟩ v).heap.size; simp [World.setCell], fun k hk hn => ho k fun e => hn (.inl e), fun k hk => .inl (by unfold Dsk.own Dsk.ownR at hk ⊢; rw [e1, e2, e3] at hk; exact hk)⟩, row_there h.hd hi⟩
/-- one block of the disk's is written: the map's -/
theorem DK.mapSet {B d m n : Nat} {S : Dsk} {D : DU} {w w' : World} (h : DK B d S w) (hmb : S.mb = some m) (hmp : w'.ownsMap Tryz.prog 9 fileR m n D) (hg : w.grownBy w' (some m))
  (hr : ∀ s : ByteArray, Maps.has D (keyS s) = false ∨ ∃ (b : Nat) (f : Fil), D.atKey (keyS s) .nil = .lit (.int .u64 (b : Int)) ∧ S.fl b = some f ∧ f.nm = s) :
  DK B d { S with D := D, n := n } w' ∧ Mov S d { S with D := D, n := n } w w' := by
 have hB : B ≤ m := (h.rest.kind (.inl hmb)).1
 have hkm : ∃ es cl, w.heap[m]? = some (.map es cl) := by
  rcases h.rest.hm with ⟨h0, _⟩ | ⟨b, h2, h3, h4⟩
  ·
   rw [h0] at hmb; cases hmb
  ·
   rw [hmb] at h2
   cases h2
   exact map_block h4
 obtain ⟨es, cl, hes⟩ := hkm
 have keep : ∀ k, k < w.heap.size → k ≠ m → w'.heap[k]? = w.heap[k]? := fun k hk hne => hg.block k hk fun e => hne (by simpa using e)
 have nm : ∀ k C t fr, w.heap[k]? = some (.cells C t fr) → k ≠ m := fun k C t fr hh e => by subst e; rw [hes] at hh; cases hh
 refine ⟨⟨h.base, (keep d h.lt (h.ne (.inl hmb)).symm).trans h.hd, ⟨.inr ⟨m, hmb, hB, hmp⟩, fun b f hb => ?_, h.rest.ha, hr, ?_, h.rest.hc⟩⟩, hg.os, hg.tape, hg.output, hg.size, fun k hk hn => keep k hk fun e => hn (.inr (.inl (by rw [e]; exact hmb))), fun k hk => .inl hk⟩
 ·
  obtain ⟨h1, h2, h3, h4⟩ := h.rest.hf b f hb
  refine ⟨h1, (keep b (Array.getElem?_eq_some_iff.1 h2).1 (nm _ _ _ _ h2)).trans h2, row_keep h3 fun k hk => ?_, h4⟩
  obtain ⟨_, cur, hh⟩ := row_block h3 hk
  exact keep k (Array.getElem?_eq_some_iff.1 hh).1 (nm _ _ _ _ hh)
 ·
  refine row_keep h.rest.hl fun k hk => ?_
  obtain ⟨_, cur, hh⟩ := row_block h.rest.hl hk
  exact keep k (Array.getElem?_eq_some_iff.1 hh).1 (nm _ _ _ _ hh)
theorem DK.mapPut {B d m b : Nat} {S : Dsk} {f : Fil} {w : World} (h : DK B d S w) (hmb : S.mb = some m) (hn : S.n < maxLen) (hf : S.fl b = some f) (hs : f.nm.size ≤ maxLen) :
  ∃ w', (Instr.mapUpdate 77 (.map (some m)) (.string f.nm) (.pointer (some ⟨b, 0, none⟩))).run Tryz.prog w = .ok () w' ∧ DK B d { S with D := S.D.put (keyS f.nm) (.lit (.int .u64 (b : Int))), n := S.n + 1 } w' ∧ Mov S d { S with D := S.D.put (keyS f.nm) (.lit (.int .u64 (b : Int))), n := S.n + 1 } w w' := by
 rcases h.rest.hm with ⟨h0, _⟩ | ⟨b', h2, h3, h4⟩
 ·
  rw [h0] at hmb; cases hmb
 ·
  rw [hmb] at h2
  cases h2
  obtain ⟨w', h5, h6, h7⟩ := h4.store mapLaw Tryz.underlying77 hn (keyOk hs) (fileR_ptr b)
  obtain ⟨h8, h9⟩ := h.mapSet hmb h6 h7.grown fun s => by
   by_cases e : s = f.nm
   ·
    rw [e, atKey_put_same h4.isMap (by trivial)]
    exact .inr ⟨b, f, rfl, hf, rfl⟩
   ·
    rcases h.rest.hr s with k0 | ⟨b', f', k1, k2, k3⟩
    ·
     exact .inl ((has_put_other (fun x => e (keyS_inj x)) _).trans k0)
    ·
     exact .inr ⟨b', f', (atKey_put_other (fun x => e (keyS_inj x)) _ _).trans k1, k2, k3⟩
  exact ⟨w', h5, h8, h9⟩
theorem DK.mapDel {B d : Nat} {S : Dsk} {w : World} (h : DK B d S w) (s : ByteArray) (hs : s.size ≤ maxLen) (ty : TypeId) :
  ∃ w', (Builtin.delete_ #[77, 9] ty #[.map S.mb, .string s]).run Tryz.prog w = .ok (.tuple #[]) w' ∧ DK B d { S with D := S.D.del (keyS s) } w' ∧ Mov S d { S with D := S.D.del (keyS s) } w w' := by
 rcases h.rest.hm with ⟨h0, h1⟩ | ⟨m, h2, h3, h4⟩
 ·
  refine ⟨w, by rw [h0]; exact Maps.drop_nil mapLaw Tryz.underlying77 (keyOk hs) ty, ?_, ?_⟩
  ·
   have e : S.D.del (keyS s) = S.D := by rw [h1]; rfl
   rw [e]
   exact h
  ·
   have e : S.D.del (keyS s) = S.D := by rw [h1]; rfl
   rw [e]
   exact Mov.refl _ _ _
 ·
  obtain ⟨w', h5, h6, h7⟩ := h4.drop mapLaw Tryz.underlying77 (keyOk hs) ty
  obtain ⟨h8, h9⟩ := h.mapSet h2 h6 h7.grown fun x => by
   by_cases e : x = s
   ·
    rw [e]
    exact .inl has_del_same
   ·
    rcases h.rest.hr x with k0 | ⟨b', f', k1, k2, k3⟩
    ·
     exact .inl ((has_del_other (fun y => e (keyS_inj y))).trans k0)
    ·
     exact .inr ⟨b', f', (atKey_del_other (fun y => e (keyS_inj y)) _).trans k1, k2, k3⟩
  exact ⟨w', by rw [h2]; exact h5, h8, h9⟩
theorem wp_mapUpdateD {P : Program} {op : Oper} {a : Act} {w w' : World} {K : Act → World → Prop} {Q : Exit → Act → World → Prop} (t : TypeId) (m x v : Operand) (ho : op.op = .mapUpdate t m x v) (mv kv vv : Value) (hm : a.eval m = mv) (hx : a.eval x = kv) (hv : a.eval v = vv) (hrun : (Instr.mapUpdate t mv kv vv).run P w = .ok () w') (h : K (a.put op.dst undef) w') : op.wp P a w K Q := by
 unfold Oper.wp
 simp [execOp, ho, hm, hx, hv, hrun, Result.andThen]
 exact h
theorem wp_deleteD {P : Program} {op : Oper} {a : Act} {w w' : World} {K : Act → World → Prop} {Q : Exit → Act → World → Prop} (t k : TypeId) (m x : Operand) (ho : op.op = .call { callee := .builtin .delete, args := #[m, x], argTypes := #[t, k] }) (mv kv : Value) (hm : a.eval m = mv) (hx : a.eval x = kv) (hrun : (Builtin.delete_ #[t, k] op.type #[mv, kv]).run P w = .ok (.tuple #[]) w') (h : K (a.put op.dst (.tuple #[])) w') : op.wp P a w K Q := by
 unfold Oper.wp
 simp [execOp, ho, resolve, invoke, builtin, hm, hx, hrun, Result.andThen]
 exact h
/-- the struct gets a new map -/
theorem DK.newMap {B d : Nat} {S : Dsk} {w : World} (h : DK B d S w) (hmb : S.mb = none) : DK B d { S with mb := some w.heap.size } ((w.alloc (.map #[] 0)).setCells d 1 [.map (some w.heap.size)]) ∧ Mov S d { S with mb := some w.heap.size } w ((w.alloc (.map #[] 0)).setCells d 1 [.map (some w.heap.size)]) := by
 have hD : S.D = .map [] := by
  rcases h.rest.hm with ⟨_, h1⟩ | ⟨m, h2, _⟩
  ·
   exact h1
  ·
   rw [hmb] at h2; cases h2
 have ha := h.alloc (.map #[] 0)
 have hlt := h.lt
 have ho : ∀ k, k ≠ d → ((w.alloc (.map #[] 0)).setCells d 1 [.map (some w.heap.size)]).heap[k]? = (w.alloc (.map #[] 0)).heap[k]? := fun k hk => Below.heap_setCell _ ⟨d, 1, none⟩ _ k hk
 have hh := row_set ha.hd (.map (some w.heap.size)) (o := 1) (by show 1 < 6; omega)
 have hr := ha.rest.keep (w' := (w.alloc (.map #[] 0)).setCells d 1 [.map (some w.heap.size)]) fun k hk => ho k (ha.ne hk)
 refine ⟨⟨h.base, hh, ⟨.inr ⟨_, rfl, Nat.le_trans h.base (Nat.le_of_lt hlt), ?_⟩, hr.hf, hr.ha, hr.hr, hr.hl, hr.hc⟩⟩, rfl, rfl, rfl, ?_, fun k hk hn => ?_, fun k hk => ?_⟩
 ·
  refine map_keep ?_ (ho _ (by omega))
  show (w.alloc (.map #[] 0)).ownsMap Tryz.prog 9 fileR w.heap.size S.n S.D
  rw [hD]
  exact (World.ownsMap_made w Tryz.prog 9 fileR).mono (Nat.zero_le _)
 ·
  show w.heap.size ≤ ((w.alloc (.map #[] 0)).setCell ⟨d, 1, none⟩ _).heap.size
  simp [World.setCell]
 ·
  rw [ho k fun e => hn (.inl e)]
  exact Below.heap_alloc _ _ _ hk
 ·
  rcases hk with hk | hk | hk
  ·
   exact .inl (.inl hk)
  ·
   right
   have : w.heap.size = k := by simpa using hk
   omega
  ·
   exact .inl (.inr (.inr hk))
theorem mapnil (w : World) : (binOp .eql 77 (.map none) (.map none)).run Tryz.prog w = .ok (.bool true) w := by kernel_rfl
theorem mapsome (m : Nat) (w : World) : (binOp .eql 77 (.map (some m)) (.map none)).run Tryz.prog w = .ok (.bool false) w := by kernel_rfl
theorem gen_code2 {P : Program} {c : Code} {Q : Exit → Act → World → Prop} {a : Act} {W : World} {F : World → Prop} (h : F W) (k : ∀ w, F w → c.wp P Q a w) : c.wp P Q a W := k W h
/-- what drop leaves -/
def Dsk.drop (S : Dsk) (f : Fil) : Dsk := { S with D := S.D.del (keyS f.nm), used := wrap64 (S.used - (f.zs.length : Int)) }
/-- what put leaves -/
def Dsk.put (S : Dsk) (m b : Nat) (f : Fil) : Dsk := { S with mb := some m, D := S.D.put (keyS f.nm) (.lit (.int .u64 (b : Int))), n := S.n + 1, used := wrap64 (S.used + (f.zs.length : Int)) }
set_option maxRecDepth 100000 in
set_option maxHeartbeats 4000000 in
theorem ddrop_c {B d b : Nat} {S : Dsk} {f : Fil} {w : World} (h : DK B d S w) (hf : S.fl b = some f) (hs : f.nm.size ≤ maxLen) : Calls Tryz.prog 103 #[.pointer (some ⟨d, 0, none⟩), .pointer (some ⟨b, 0, none⟩)] w fun e w' => e = .returned (.tuple #[]) ∧ DK B d (S.drop f) w' ∧ Mov S d (S.drop f) w w' := by
 obtain ⟨ra, rc, hrow, -, -, -⟩ := ((h.rest.hf b f hf).2.2.1).rd (h.rest.hf b f hf).2.2.2
 have HROW := Lib.hid hrow
 have HF := Lib.hid hf
 have HK := Lib.hid h
 have HMV := Lib.hid (Mov.refl S d w)
 clear h hrow hf
 go_enter Tryz.func103, Tryz.ntmps103
 go_wp2_with fail
 (try dsimp only [Act.put, sT, sZ, sS])
 have HK := Lib.hid (HK.out.below (Below.refl _ _).drew)
 have HMV := Lib.hid (HMV.out.trans (Mov.ofBelow (S := S) (d := d) (Below.refl _ _).drew))
 have HS := Lib.hid (show World.cell? _ ⟨d, 1, none⟩ = some (.map (S).mb) ∧ World.cell? _ ⟨b, 0, none⟩ = some (.string f.nm) from ⟨HK.out.cells.2.1, (HK.out.rest.fcells HF.out).1⟩)
 have HL2 := Lib.hid (fun W (hW : World.cell? W ⟨d, 1, none⟩ = some (.map (S).mb) ∧ World.cell? W ⟨b, 0, none⟩ = some (.string f.nm)) => run_cell_map W ⟨d, 1, none⟩ _ hW.1)
 have HL1 := Lib.hid (fun W (hW : World.cell? W ⟨d, 1, none⟩ = some (.map (S).mb) ∧ World.cell? W ⟨b, 0, none⟩ = some (.string f.nm)) => run_cell_s W ⟨b, 0, none⟩ _ hW.2)
 refine anyH_begin (S := fun W => World.cell? W ⟨d, 1, none⟩ = some (.map (S).mb) ∧ World.cell? W ⟨b, 0, none⟩ = some (.string f.nm)) (by kernel_rfl) ?_
 refine aP 0 (d := 4) (op := .move (.tmp 0)) (.pointer (some ⟨d, 0, none⟩)) HS.out ?_
 simp only [Act.put, sT, sZ, sS]
 refine aP 1 (d := 5) (op := .nilCheck (.tmp 4)) (.pointer (some ⟨d, 0, none⟩)) HS.out ?_
 simp only [Act.put, sT, sZ, sS]
 refine aP 2 (d := 6) (op := .fieldAddr 80 (.tmp 5) 1) (.pointer (some ⟨d, 1, none⟩)) HS.out ?_
 simp only [Act.put, sT, sZ, sS]
 refine aL 3 (d := 7) (ty := 77) (x := (.tmp 6)) (p := .pointer (some ⟨d, 1, none⟩)) (.map (S).mb) HL2.out HS.out ?_
 simp only [Act.put, sT, sZ, sS]
 refine aP 4 (d := 8) (op := .move (.tmp 1)) (.pointer (some ⟨b, 0, none⟩)) HS.out ?_
 simp only [Act.put, sT, sZ, sS]
 refine aP 5 (d := 9) (op := .nilCheck (.tmp 8)) (.pointer (some ⟨b, 0, none⟩)) HS.out ?_
 simp only [Act.put, sT, sZ, sS]
 refine aP 6 (d := 10) (op := .fieldAddr 159 (.tmp 9) 0) (.pointer (some ⟨b, 0, none⟩)) HS.out ?_
 simp only [Act.put, sT, sZ, sS]
 refine aL 7 (d := 11) (ty := 9) (x := (.tmp 10)) (p := .pointer (some ⟨b, 0, none⟩)) (.string f.nm) HL1.out HS.out ?_
 simp only [Act.put, sT, sZ, sS]
 refine wpAnyH_all (rs := [8]) (by kernel_rfl) (by simp) ?_
 intro k hk; simp only [List.mem_cons, List.not_mem_nil, or_false] at hk; subst hk
 refine op_atJ 8 (d := none) (op := .call { callee := .builtin .delete, args := #[(.tmp 7), (.tmp 11)], argTypes := #[77, 9] }) (by rfl) ?_
 intro o0 hod hoo
 obtain ⟨w7, hrun, HK9, HMV9⟩ := HK.out.mapDel f.nm hs o0.type
 refine wp_deleteD 77 9 (.tmp 7) (.tmp 11) hoo (.map (S).mb) (.string f.nm) (by rfl) (by rfl) hrun ?_
 have HK := Lib.hid HK9
 have HMV := Lib.hid (HMV.out.trans HMV9)
 rw [hod]
 clear HK9 HMV9 HL1 HL2 hrun
 simp only [Act.put, sT, sZ, sS]
 refine ⟨⟨HK.out.cells.2.1, (HK.out.rest.fcells HF.out).1⟩, ?_⟩
 clear HS
 refine wpAnyH_done (by kernel_rfl) ?_ _
 go_wp2_with fail
 (try dsimp only [Act.put, sT, sZ, sS])
 have HK := Lib.hid (HK.out.below (Below.refl _ _).drew)
 have HMV := Lib.hid (HMV.out.trans (Mov.ofBelow (S := { S with D := S.D.del (keyS f.nm) }) (d := d) (Below.refl _ _).drew))
 have HS := Lib.hid ((HK.out.rest.fcells HF.out).2.trans (congrArg some HROW.out))
 have HL2 := Lib.hid (run_cell_i _ ⟨d, 2, none⟩ _ HK.out.cells.2.2.1)
 have HL1 := Lib.hid (fun W (hW : W.cell? ⟨b, 1, none⟩ = some (.slice ra f.zs.length rc)) => run_cell_b W ⟨b, 1, none⟩ ra f.zs.length rc hW)
 refine anyH_begin (S := fun W => W.cell? ⟨b, 1, none⟩ = some (.slice ra f.zs.length rc)) (by kernel_rfl) ?_
 refine aP 0 (d := 12) (op := .move (.tmp 0)) (.pointer (some ⟨d, 0, none⟩)) HS.out ?_
 simp only [Act.put, sT, sZ, sS]
 refine aP 1 (d := 13) (op := .nilCheck (.tmp 12)) (.pointer (some ⟨d, 0, none⟩)) HS.out ?_
 simp only [Act.put, sT, sZ, sS]
 refine aP 2 (d := 14) (op := .fieldAddr 80 (.tmp 13) 2) (.pointer (some ⟨d, 2, none⟩)) HS.out ?_
 simp only [Act.put, sT, sZ, sS]
 refine aP 4 (d := 16) (op := .move (.tmp 1)) (.pointer (some ⟨b, 0, none⟩)) HS.out ?_
 simp only [Act.put, sT, sZ, sS]
 refine aP 5 (d := 17) (op := .nilCheck (.tmp 16)) (.pointer (some ⟨b, 0, none⟩)) HS.out ?_
 simp only [Act.put, sT, sZ, sS]
 refine aP 6 (d := 18) (op := .fieldAddr 159 (.tmp 17) 1) (.pointer (some ⟨b, 1, none⟩)) HS.out ?_
 simp only [Act.put, sT, sZ, sS]
 refine aL 7 (d := 19) (ty := 38) (x := (.tmp 18)) (p := .pointer (some ⟨b, 1, none⟩)) (.slice ra f.zs.length rc) HL1.out HS.out ?_
 simp only [Act.put, sT, sZ, sS]
 refine aP 8 (d := 20) (op := .call { callee := .builtin .len, args := #[(.tmp 19)], argTypes := #[38] }) (.int .i64 (f.zs.length : Int)) HS.out ?_
 simp only [Act.put, sT, sZ, sS]
 refine wpAnyH_all (rs := [3]) (by kernel_rfl) (by simp) ?_
 intro k hk; simp only [List.mem_cons, List.not_mem_nil, or_false] at hk; subst hk
 refine op_atJ 3 (d := some 15) (op := .load 3 (.tmp 14)) (by rfl) ?_
 intro o1 hod1 hoo1
 refine wp_load_g 3 (.tmp 14) hoo1 (.pointer (some ⟨d, 2, none⟩)) (.int .i64 ({ S with D := S.D.del (keyS f.nm) }).used) (by rfl) HL2.out ?_
 rw [hod1]
 simp only [Act.put, sT, sZ, sS]
 refine ⟨HS.out, ?_⟩
 refine anyH_pureG 9 (d := 21) (op := .binOp .sub 3 (.tmp 15) (.tmp 20) 3) (gd := none) (.int .i64 (wrap64 (({ S with D := S.D.del (keyS f.nm) }).used - (f.zs.length : Int)))) (by rfl) wantedP (by kernel_rfl) (by kernel_rfl) (by kernel_rfl) (fun _ _ _ h => h) (fun o ho W hW => by unfold execOp; simp only [ho]; go_simp; rw [IntKind.wrap_i64]; unfold wrap64; rfl) HS.out ?_
 simp only [Act.put, sT, sZ, sS]
 refine aP 10 (d := 22) (op := .nilCheck (.tmp 12)) (.pointer (some ⟨d, 0, none⟩)) HS.out ?_
 simp only [Act.put, sT, sZ, sS]
 refine aP 11 (d := 23) (op := .fieldAddr 80 (.tmp 22) 2) (.pointer (some ⟨d, 2, none⟩)) HS.out ?_
 simp only [Act.put, sT, sZ, sS]
 obtain ⟨HK9, HMV9, hth⟩ := HK.out.cellSet 2 (.int .i64 (wrap64 (({ S with D := S.D.del (keyS f.nm) }).used - (f.zs.length : Int)))) { { S with D := S.D.del (keyS f.nm) } with used := wrap64 (({ S with D := S.D.del (keyS f.nm) }).used - (f.zs.length : Int)) } rfl (by omega) rfl ⟨rfl, rfl, rfl⟩
 refine wpAnyH_all (rs := [12]) (by kernel_rfl) (by simp) ?_
 intro k hk; simp only [List.mem_cons, List.not_mem_nil, or_false] at hk; subst hk
 refine op_atJ 12 (d := none) (op := .store 3 (.tmp 23) (.tmp 21)) (by rfl) ?_
 intro o0 hod hoo
 refine wp_store_one 3 (.tmp 23) (.tmp 21) hoo d 2 (.int .i64 (wrap64 (({ S with D := S.D.del (keyS f.nm) }).used - (f.zs.length : Int)))) (by rfl) (by rfl) hth (by kernel_rfl) (by rfl) (by rfl) ?_
 have HK := Lib.hid HK9
 have HMV := Lib.hid (HMV.out.trans HMV9)
 have HS := Lib.hid ((HK.out.rest.fcells HF.out).2.trans (congrArg some HROW.out))
 rw [hod]
 clear HK9 HMV9 hth HL1 HL2
 simp only [Act.put, sT, sZ, sS]
 refine ⟨HS.out, ?_⟩
 refine wpAnyH_done (by kernel_rfl) ?_ _
 clear HS
 go_wp2_with fail
 go_end0
 exact ⟨rfl, HK.out, HMV.out⟩
set_option maxRecDepth 100000 in
set_option maxHeartbeats 8000000 in
theorem dput_c {B d b : Nat} {S : Dsk} {f : Fil} {w : World} (h : DK B d S w) (hf : S.fl b = some f) (hs : f.nm.size ≤ maxLen) (hn : S.n < maxLen) : Calls Tryz.prog 102 #[.pointer (some ⟨d, 0, none⟩), .pointer (some ⟨b, 0, none⟩)] w fun e w' => e = .returned (.tuple #[]) ∧ ∃ m, DK B d (S.put m b f) w' ∧ Mov S d (S.put m b f) w w' := by
 obtain ⟨ra, rc, hrow, -, -, -⟩ := ((h.rest.hf b f hf).2.2.1).rd (h.rest.hf b f hf).2.2.2
 have HROW := Lib.hid hrow
 have HF := Lib.hid hf
 have c1 := h.cells.2.1
 have f1 : w.frozen? ⟨d, 1, none⟩ = false := frozen_of_row w d 1 _ _ h.hd
 have hdl := h.lt
 cases hmb : S.mb with
 | none =>
  obtain ⟨g1, g2⟩ := h.newMap hmb
  rw [hmb] at c1
  have HK9 := Lib.hid g1
  have HMV9 := Lib.hid g2
  clear h hrow hf g1 g2
  have hmm := @run_makeMap Tryz.prog
  have hq0 := mapnil
  go_enter Tryz.func102, Tryz.ntmps102
  go_wp2_with fail
  refine gen_code2 (F := fun W => DK B d { S with mb := some w.heap.size } W ∧ Mov S d { S with mb := some w.heap.size } w W) (by rw [← World.setCell_alloc_past _ _ _ _ hdl]; exact ⟨HK9.out, HMV9.out⟩) ?_
  rintro w6 ⟨g1, g2⟩
  obtain ⟨m, hm⟩ : ∃ m, m = w.heap.size := ⟨_, rfl⟩
  rw [← hm] at g1 g2
  have HK := Lib.hid g1
  have HMV := Lib.hid g2
  clear g1 g2 HK9 HMV9 hmm c1 f1 hm
  (try dsimp only [Act.put, sT, sZ, sS])
  have HK := Lib.hid (HK.out.below (Below.refl _ _).drew)
  have HMV := Lib.hid (HMV.out.trans (Mov.ofBelow (S := { S with mb := some m }) (d := d) (Below.refl _ _).drew))
  have HS := Lib.hid (show World.cell? _ ⟨d, 1, none⟩ = some (.map (some m)) ∧ World.cell? _ ⟨b, 0, none⟩ = some (.string f.nm) from ⟨HK.out.cells.2.1, (HK.out.rest.fcells HF.out).1⟩)
  have HL2 := Lib.hid (fun W (hW : World.cell? W ⟨d, 1, none⟩ = some (.map (some m)) ∧ World.cell? W ⟨b, 0, none⟩ = some (.string f.nm)) => run_cell_map W ⟨d, 1, none⟩ _ hW.1)
  have HL1 := Lib.hid (fun W (hW : World.cell? W ⟨d, 1, none⟩ = some (.map (some m)) ∧ World.cell? W ⟨b, 0, none⟩ = some (.string f.nm)) => run_cell_s W ⟨b, 0, none⟩ _ hW.2)
  refine anyH_begin (S := fun W => World.cell? W ⟨d, 1, none⟩ = some (.map (some m)) ∧ World.cell? W ⟨b, 0, none⟩ = some (.string f.nm)) (by kernel_rfl) ?_
  refine aP 0 (d := 13) (op := .move (.tmp 0)) (.pointer (some ⟨d, 0, none⟩)) HS.out ?_
  simp only [Act.put, sT, sZ, sS]
  refine aP 1 (d := 14) (op := .nilCheck (.tmp 13)) (.pointer (some ⟨d, 0, none⟩)) HS.out ?_
  simp only [Act.put, sT, sZ, sS]
  refine aP 2 (d := 15) (op := .fieldAddr 80 (.tmp 14) 1) (.pointer (some ⟨d, 1, none⟩)) HS.out ?_
  simp only [Act.put, sT, sZ, sS]
  refine aL 3 (d := 16) (ty := 77) (x := (.tmp 15)) (p := .pointer (some ⟨d, 1, none⟩)) (.map (some m)) HL2.out HS.out ?_
  simp only [Act.put, sT, sZ, sS]
  refine aP 4 (d := 17) (op := .move (.tmp 1)) (.pointer (some ⟨b, 0, none⟩)) HS.out ?_
  simp only [Act.put, sT, sZ, sS]
  refine aP 5 (d := 18) (op := .nilCheck (.tmp 17)) (.pointer (some ⟨b, 0, none⟩)) HS.out ?_
  simp only [Act.put, sT, sZ, sS]
  refine aP 6 (d := 19) (op := .fieldAddr 159 (.tmp 18) 0) (.pointer (some ⟨b, 0, none⟩)) HS.out ?_
  simp only [Act.put, sT, sZ, sS]
  refine aL 7 (d := 20) (ty := 9) (x := (.tmp 19)) (p := .pointer (some ⟨b, 0, none⟩)) (.string f.nm) HL1.out HS.out ?_
  simp only [Act.put, sT, sZ, sS]
  refine aP 8 (d := 21) (op := .move (.tmp 1)) (.pointer (some ⟨b, 0, none⟩)) HS.out ?_
  simp only [Act.put, sT, sZ, sS]
  obtain ⟨w7, hrun, HK9, HMV9⟩ := HK.out.mapPut rfl hn HF.out hs
  refine wpAnyH_all (rs := [9]) (by kernel_rfl) (by simp) ?_
  intro k hk; simp only [List.mem_cons, List.not_mem_nil, or_false] at hk; subst hk
  refine op_atJ 9 (d := none) (op := .mapUpdate 77 (.tmp 16) (.tmp 20) (.tmp 21)) (by rfl) ?_
  intro o0 hod hoo
  refine wp_mapUpdateD 77 (.tmp 16) (.tmp 20) (.tmp 21) hoo (.map (some m)) (.string f.nm) (.pointer (some ⟨b, 0, none⟩)) (by rfl) (by rfl) (by rfl) hrun ?_
  have HK := Lib.hid HK9
  have HMV := Lib.hid (HMV.out.trans HMV9)
  rw [hod]
  clear HK9 HMV9 HL1 HL2 hrun
  simp only [Act.put, sT, sZ, sS]
  refine ⟨⟨HK.out.cells.2.1, (HK.out.rest.fcells HF.out).1⟩, ?_⟩
  clear HS
  refine wpAnyH_done (by kernel_rfl) ?_ _
  go_wp2_with fail
  (try dsimp only [Act.put, sT, sZ, sS])
  have HK := Lib.hid (HK.out.below (Below.refl _ _).drew)
  have HMV := Lib.hid (HMV.out.trans (Mov.ofBelow (S := { { S with mb := some m } with D := S.D.put (keyS f.nm) (.lit (.int .u64 (b : Int))), n := S.n + 1 }) (d := d) (Below.refl _ _).drew))
  have HS := Lib.hid ((HK.out.rest.fcells HF.out).2.trans (congrArg some HROW.out))
  have HL2 := Lib.hid (run_cell_i _ ⟨d, 2, none⟩ _ HK.out.cells.2.2.1)
  have HL1 := Lib.hid (fun W (hW : W.cell? ⟨b, 1, none⟩ = some (.slice ra f.zs.length rc)) => run_cell_b W ⟨b, 1, none⟩ ra f.zs.length rc hW)
  refine anyH_begin (S := fun W => W.cell? ⟨b, 1, none⟩ = some (.slice ra f.zs.length rc)) (by kernel_rfl) ?_
  refine aP 0 (d := 22) (op := .move (.tmp 0)) (.pointer (some ⟨d, 0, none⟩)) HS.out ?_
  simp only [Act.put, sT, sZ, sS]
  refine aP 1 (d := 23) (op := .nilCheck (.tmp 22)) (.pointer (some ⟨d, 0, none⟩)) HS.out ?_
  simp only [Act.put, sT, sZ, sS]
  refine aP 2 (d := 24) (op := .fieldAddr 80 (.tmp 23) 2) (.pointer (some ⟨d, 2, none⟩)) HS.out ?_
  simp only [Act.put, sT, sZ, sS]
  refine aP 4 (d := 26) (op := .move (.tmp 1)) (.pointer (some ⟨b, 0, none⟩)) HS.out ?_
  simp only [Act.put, sT, sZ, sS]
  refine aP 5 (d := 27) (op := .nilCheck (.tmp 26)) (.pointer (some ⟨b, 0, none⟩)) HS.out ?_
  simp only [Act.put, sT, sZ, sS]
  refine aP 6 (d := 28) (op := .fieldAddr 159 (.tmp 27) 1) (.pointer (some ⟨b, 1, none⟩)) HS.out ?_
  simp only [Act.put, sT, sZ, sS]
  refine aL 7 (d := 29) (ty := 38) (x := (.tmp 28)) (p := .pointer (some ⟨b, 1, none⟩)) (.slice ra f.zs.length rc) HL1.out HS.out ?_
  simp only [Act.put, sT, sZ, sS]
  refine aP 8 (d := 30) (op := .call { callee := .builtin .len, args := #[(.tmp 29)], argTypes := #[38] }) (.int .i64 (f.zs.length : Int)) HS.out ?_
  simp only [Act.put, sT, sZ, sS]
  refine wpAnyH_all (rs := [3]) (by kernel_rfl) (by simp) ?_
  intro k hk; simp only [List.mem_cons, List.not_mem_nil, or_false] at hk; subst hk
  refine op_atJ 3 (d := some 25) (op := .load 3 (.tmp 24)) (by rfl) ?_
  intro o1 hod1 hoo1
  refine wp_load_g 3 (.tmp 24) hoo1 (.pointer (some ⟨d, 2, none⟩)) (.int .i64 ({ { S with mb := some m } with D := S.D.put (keyS f.nm) (.lit (.int .u64 (b : Int))), n := S.n + 1 }).used) (by rfl) HL2.out ?_
  rw [hod1]
  simp only [Act.put, sT, sZ, sS]
  refine ⟨HS.out, ?_⟩
  refine anyH_pureG 9 (d := 31) (op := .binOp .add 3 (.tmp 25) (.tmp 30) 3) (gd := none) (.int .i64 (wrap64 (({ { S with mb := some m } with D := S.D.put (keyS f.nm) (.lit (.int .u64 (b : Int))), n := S.n + 1 }).used + (f.zs.length : Int)))) (by rfl) wantedP (by kernel_rfl) (by kernel_rfl) (by kernel_rfl) (fun _ _ _ h => h) (fun o ho W hW => by unfold execOp; simp only [ho]; go_simp; rw [IntKind.wrap_i64]; unfold wrap64; rfl) HS.out ?_
  simp only [Act.put, sT, sZ, sS]
  refine aP 10 (d := 32) (op := .nilCheck (.tmp 22)) (.pointer (some ⟨d, 0, none⟩)) HS.out ?_
  simp only [Act.put, sT, sZ, sS]
  refine aP 11 (d := 33) (op := .fieldAddr 80 (.tmp 32) 2) (.pointer (some ⟨d, 2, none⟩)) HS.out ?_
  simp only [Act.put, sT, sZ, sS]
  obtain ⟨HK9, HMV9, hth⟩ := HK.out.cellSet 2 (.int .i64 (wrap64 (({ { S with mb := some m } with D := S.D.put (keyS f.nm) (.lit (.int .u64 (b : Int))), n := S.n + 1 }).used + (f.zs.length : Int)))) { { { S with mb := some m } with D := S.D.put (keyS f.nm) (.lit (.int .u64 (b : Int))), n := S.n + 1 } with used := wrap64 (({ { S with mb := some m } with D := S.D.put (keyS f.nm) (.lit (.int .u64 (b : Int))), n := S.n + 1 }).used + (f.zs.length : Int)) } rfl (by omega) rfl ⟨rfl, rfl, rfl⟩
  refine wpAnyH_all (rs := [12]) (by kernel_rfl) (by simp) ?_
  intro k hk; simp only [List.mem_cons, List.not_mem_nil, or_false] at hk; subst hk
  refine op_atJ 12 (d := none) (op := .store 3 (.tmp 33) (.tmp 31)) (by rfl) ?_
  intro o0 hod hoo
  refine wp_store_one 3 (.tmp 33) (.tmp 31) hoo d 2 (.int .i64 (wrap64 (({ { S with mb := some m } with D := S.D.put (keyS f.nm) (.lit (.int .u64 (b : Int))), n := S.n + 1 }).used + (f.zs.length : Int)))) (by rfl) (by rfl) hth (by kernel_rfl) (by rfl) (by rfl) ?_
  have HK := Lib.hid HK9
  have HMV := Lib.hid (HMV.out.trans HMV9)
  have HS := Lib.hid ((HK.out.rest.fcells HF.out).2.trans (congrArg some HROW.out))
  rw [hod]
  clear HK9 HMV9 hth HL1 HL2
  simp only [Act.put, sT, sZ, sS]
  refine ⟨HS.out, ?_⟩
  refine wpAnyH_done (by kernel_rfl) ?_ _
  clear HS
  go_wp2_with fail
  go_end0
  exact ⟨rfl, m, HK.out, HMV.out⟩
 | some m =>
  rw [hmb] at c1
  have HK := Lib.hid (show DK B d { S with mb := some m } w from by rw [← hmb]; exact h)
  have HMV := Lib.hid (show Mov S d { S with mb := some m } w w from by rw [← hmb]; exact Mov.refl S d w)
  clear h hrow hf
  have hq1 := mapsome m
  go_enter Tryz.func102, Tryz.ntmps102
  go_wp2_with fail
  (try dsimp only [Act.put, sT, sZ, sS])
  have HK := Lib.hid (HK.out.below (Below.refl _ _).drew)
  have HMV := Lib.hid (HMV.out.trans (Mov.ofBelow (S := { S with mb := some m }) (d := d) (Below.refl _ _).drew))
  have HS := Lib.hid (show World.cell? _ ⟨d, 1, none⟩ = some (.map (some m)) ∧ World.cell? _ ⟨b, 0, none⟩ = some (.string f.nm) from ⟨HK.out.cells.2.1, (HK.out.rest.fcells HF.out).1⟩)
  have HL2 := Lib.hid (fun W (hW : World.cell? W ⟨d, 1, none⟩ = some (.map (some m)) ∧ World.cell? W ⟨b, 0, none⟩ = some (.string f.nm)) => run_cell_map W ⟨d, 1, none⟩ _ hW.1)
  have HL1 := Lib.hid (fun W (hW : World.cell? W ⟨d, 1, none⟩ = some (.map (some m)) ∧ World.cell? W ⟨b, 0, none⟩ = some (.string f.nm)) => run_cell_s W ⟨b, 0, none⟩ _ hW.2)
  refine anyH_begin (S := fun W => World.cell? W ⟨d, 1, none⟩ = some (.map (some m)) ∧ World.cell? W ⟨b, 0, none⟩ = some (.string f.nm)) (by kernel_rfl) ?_
  refine aP 0 (d := 13) (op := .move (.tmp 0)) (.pointer (some ⟨d, 0, none⟩)) HS.out ?_
  simp only [Act.put, sT, sZ, sS]
  refine aP 1 (d := 14) (op := .nilCheck (.tmp 13)) (.pointer (some ⟨d, 0, none⟩)) HS.out ?_
  simp only [Act.put, sT, sZ, sS]
  refine aP 2 (d := 15) (op := .fieldAddr 80 (.tmp 14) 1) (.pointer (some ⟨d, 1, none⟩)) HS.out ?_
  simp only [Act.put, sT, sZ, sS]
  refine aL 3 (d := 16) (ty := 77) (x := (.tmp 15)) (p := .pointer (some ⟨d, 1, none⟩)) (.map (some m)) HL2.out HS.out ?_
  simp only [Act.put, sT, sZ, sS]
  refine aP 4 (d := 17) (op := .move (.tmp 1)) (.pointer (some ⟨b, 0, none⟩)) HS.out ?_
  simp only [Act.put, sT, sZ, sS]
  refine aP 5 (d := 18) (op := .nilCheck (.tmp 17)) (.pointer (some ⟨b, 0, none⟩)) HS.out ?_
  simp only [Act.put, sT, sZ, sS]
  refine aP 6 (d := 19) (op := .fieldAddr 159 (.tmp 18) 0) (.pointer (some ⟨b, 0, none⟩)) HS.out ?_
  simp only [Act.put, sT, sZ, sS]
  refine aL 7 (d := 20) (ty := 9) (x := (.tmp 19)) (p := .pointer (some ⟨b, 0, none⟩)) (.string f.nm) HL1.out HS.out ?_
  simp only [Act.put, sT, sZ, sS]
  refine aP 8 (d := 21) (op := .move (.tmp 1)) (.pointer (some ⟨b, 0, none⟩)) HS.out ?_
  simp only [Act.put, sT, sZ, sS]
  obtain ⟨w7, hrun, HK9, HMV9⟩ := HK.out.mapPut rfl hn HF.out hs
  refine wpAnyH_all (rs := [9]) (by kernel_rfl) (by simp) ?_
  intro k hk; simp only [List.mem_cons, List.not_mem_nil, or_false] at hk; subst hk
  refine op_atJ 9 (d := none) (op := .mapUpdate 77 (.tmp 16) (.tmp 20) (.tmp 21)) (by rfl) ?_
  intro o0 hod hoo
  refine wp_mapUpdateD 77 (.tmp 16) (.tmp 20) (.tmp 21) hoo (.map (some m)) (.string f.nm) (.pointer (some ⟨b, 0, none⟩)) (by rfl) (by rfl) (by rfl) hrun ?_
  have HK := Lib.hid HK9
  have HMV := Lib.hid (HMV.out.trans HMV9)
  rw [hod]
  clear HK9 HMV9 HL1 HL2 hrun
  simp only [Act.put, sT, sZ, sS]
  refine ⟨⟨HK.out.cells.2.1, (HK.out.rest.fcells HF.out).1⟩, ?_⟩
  clear HS
  refine wpAnyH_done (by kernel_rfl) ?_ _
  go_wp2_with fail
  (try dsimp only [Act.put, sT, sZ, sS])
  have HK := Lib.hid (HK.out.below (Below.refl _ _).drew)
  have HMV := Lib.hid (HMV.out.trans (Mov.ofBelow (S := { { S with mb := some m } with D := S.D.put (keyS f.nm) (.lit (.int .u64 (b : Int))), n := S.n + 1 }) (d := d) (Below.refl _ _).drew))
  have HS := Lib.hid ((HK.out.rest.fcells HF.out).2.trans (congrArg some HROW.out))
  have HL2 := Lib.hid (run_cell_i _ ⟨d, 2, none⟩ _ HK.out.cells.2.2.1)
  have HL1 := Lib.hid (fun W (hW : W.cell? ⟨b, 1, none⟩ = some (.slice ra f.zs.length rc)) => run_cell_b W ⟨b, 1, none⟩ ra f.zs.length rc hW)
  refine anyH_begin (S := fun W => W.cell? ⟨b, 1, none⟩ = some (.slice ra f.zs.length rc)) (by kernel_rfl) ?_
  refine aP 0 (d := 22) (op := .move (.tmp 0)) (.pointer (some ⟨d, 0, none⟩)) HS.out ?_
  simp only [Act.put, sT, sZ, sS]
  refine aP 1 (d := 23) (op := .nilCheck (.tmp 22)) (.pointer (some ⟨d, 0, none⟩)) HS.out ?_
  simp only [Act.put, sT, sZ, sS]
  refine aP 2 (d := 24) (op := .fieldAddr 80 (.tmp 23) 2) (.pointer (some ⟨d, 2, none⟩)) HS.out ?_
  simp only [Act.put, sT, sZ, sS]
  refine aP 4 (d := 26) (op := .move (.tmp 1)) (.pointer (some ⟨b, 0, none⟩)) HS.out ?_
  simp only [Act.put, sT, sZ, sS]
  refine aP 5 (d := 27) (op := .nilCheck (.tmp 26)) (.pointer (some ⟨b, 0, none⟩)) HS.out ?_
  simp only [Act.put, sT, sZ, sS]
  refine aP 6 (d := 28) (op := .fieldAddr 159 (.tmp 27) 1) (.pointer (some ⟨b, 1, none⟩)) HS.out ?_
  simp only [Act.put, sT, sZ, sS]
  refine aL 7 (d := 29) (ty := 38) (x := (.tmp 28)) (p := .pointer (some ⟨b, 1, none⟩)) (.slice ra f.zs.length rc) HL1.out HS.out ?_
  simp only [Act.put, sT, sZ, sS]
  refine aP 8 (d := 30) (op := .call { callee := .builtin .len, args := #[(.tmp 29)], argTypes := #[38] }) (.int .i64 (f.zs.length : Int)) HS.out ?_
  simp only [Act.put, sT, sZ, sS]
  refine wpAnyH_all (rs := [3]) (by kernel_rfl) (by simp) ?_
  intro k hk; simp only [List.mem_cons, List.not_mem_nil, or_false] at hk; subst hk
  refine op_atJ 3 (d := some 25) (op := .load 3 (.tmp 24)) (by rfl) ?_
  intro o1 hod1 hoo1
  refine wp_load_g 3 (.tmp 24) hoo1 (.pointer (some ⟨d, 2, none⟩)) (.int .i64 ({ { S with mb := some m } with D := S.D.put (keyS f.nm) (.lit (.int .u64 (b : Int))), n := S.n + 1 }).used) (by rfl) HL2.out ?_
  rw [hod1]
  simp only [Act.put, sT, sZ, sS]
  refine ⟨HS.out, ?_⟩
  refine anyH_pureG 9 (d := 31) (op := .binOp .add 3 (.tmp 25) (.tmp 30) 3) (gd := none) (.int .i64 (wrap64 (({ { S with mb := some m } with D := S.D.put (keyS f.nm) (.lit (.int .u64 (b : Int))), n := S.n + 1 }).used + (f.zs.length : Int)))) (by rfl) wantedP (by kernel_rfl) (by kernel_rfl) (by kernel_rfl) (fun _ _ _ h => h) (fun o ho W hW => by unfold execOp; simp only [ho]; go_simp; rw [IntKind.wrap_i64]; unfold wrap64; rfl) HS.out ?_
  simp only [Act.put, sT, sZ, sS]
  refine aP 10 (d := 32) (op := .nilCheck (.tmp 22)) (.pointer (some ⟨d, 0, none⟩)) HS.out ?_
  simp only [Act.put, sT, sZ, sS]
  refine aP 11 (d := 33) (op := .fieldAddr 80 (.tmp 32) 2) (.pointer (some ⟨d, 2, none⟩)) HS.out ?_
  simp only [Act.put, sT, sZ, sS]
  obtain ⟨HK9, HMV9, hth⟩ := HK.out.cellSet 2 (.int .i64 (wrap64 (({ { S with mb := some m } with D := S.D.put (keyS f.nm) (.lit (.int .u64 (b : Int))), n := S.n + 1 }).used + (f.zs.length : Int)))) { { { S with mb := some m } with D := S.D.put (keyS f.nm) (.lit (.int .u64 (b : Int))), n := S.n + 1 } with used := wrap64 (({ { S with mb := some m } with D := S.D.put (keyS f.nm) (.lit (.int .u64 (b : Int))), n := S.n + 1 }).used + (f.zs.length : Int)) } rfl (by omega) rfl ⟨rfl, rfl, rfl⟩
  refine wpAnyH_all (rs := [12]) (by kernel_rfl) (by simp) ?_
  intro k hk; simp only [List.mem_cons, List.not_mem_nil, or_false] at hk; subst hk
  refine op_atJ 12 (d := none) (op := .store 3 (.tmp 33) (.tmp 31)) (by rfl) ?_
  intro o0 hod hoo
  refine wp_store_one 3 (.tmp 33) (.tmp 31) hoo d 2 (.int .i64 (wrap64 (({ { S with mb := some m } with D := S.D.put (keyS f.nm) (.lit (.int .u64 (b : Int))), n := S.n + 1 }).used + (f.zs.length : Int)))) (by rfl) (by rfl) hth (by kernel_rfl) (by rfl) (by rfl) ?_
  have HK := Lib.hid HK9
  have HMV := Lib.hid (HMV.out.trans HMV9)
  have HS := Lib.hid ((HK.out.rest.fcells HF.out).2.trans (congrArg some HROW.out))
  rw [hod]
  clear HK9 HMV9 hth HL1 HL2
  simp only [Act.put, sT, sZ, sS]
  refine ⟨HS.out, ?_⟩
  refine wpAnyH_done (by kernel_rfl) ?_ _
  clear HS
  go_wp2_with fail
  go_end0
  exact ⟨rfl, m, HK.out, HMV.out⟩
end Go.Proofs.YtihbgigledmliaaGreat

namespace Go.Proofs.YtihbgigledmliaaGreat
open Go.Shelf
def laysM316_ren : Go.Shelf.Ren := ⟨fun | 316 => 81 | n => n, fun | 9 => 9 | 3 => 3 | 4 => 4 | 37 => 38 | 0 => 0 | 127 => 173 | 5 => 5 | n => n, fun | n => n⟩
theorem laysM316 : Go.Proofs.LaysM.n316 Tryz.prog laysM316_ren := {
 mixed := by kernel_rfl
 f316 := Tryz.func81.trans (congrArg some (by kernel_rfl))
 t0 := Tryz.underlying0
 a0 := Tryz.isAgg0
 z0 := Tryz.sizeOf0
 v0 := Tryz.zeroValue0
 t3 := Tryz.underlying3
 a3 := Tryz.isAgg3
 z3 := Tryz.sizeOf3
 v3 := Tryz.zeroValue3
 t4 := Tryz.underlying4
 a4 := Tryz.isAgg4
 z4 := Tryz.sizeOf4
 v4 := Tryz.zeroValue4
 t9 := Tryz.underlying9
 a9 := Tryz.isAgg9
 z9 := Tryz.sizeOf9
 v9 := Tryz.zeroValue9
 t37 := Tryz.underlying38
 a37 := Tryz.isAgg38
 z37 := Tryz.sizeOf38
 v37 := Tryz.zeroValue38
 t127 := Tryz.underlying173
 a127 := Tryz.isAgg173
 z127 := Tryz.sizeOf173
 v127 := Tryz.zeroValue173
 t5 := Tryz.underlying5
 a5 := Tryz.isAgg5
 z5 := Tryz.sizeOf5
 v5 := Tryz.zeroValue5
 i0 := by kernel_rfl
 i3 := by kernel_rfl
 i4 := by kernel_rfl
 i5 := by kernel_rfl
 i9 := by kernel_rfl
 i37 := by kernel_rfl
 i127 := by kernel_rfl }
open Go.RowKit in
theorem stringslite_Clone (s : ByteArray) (w : World) (hlim : s.size ≤ 281474976710656) :
  Calls Tryz.prog 81 #[.string s] w fun e w' => e = .returned (.string s) ∧ Below w.heap.size w w' := Any.stringslite_Clone laysM316 s w hlim
def lays190_ren : Go.Shelf.Ren := ⟨fun | 190 => 106 | 125 => 122 | 258 => 121 | 128 => 137 | 129 => 138 | 302 => 128 | 303 => 129 | 304 => 130 | 305 => 131 | 306 => 132 | 307 => 133 | 308 => 134 | 309 => 135 | 310 => 136 | 333 => 139 | 329 => 140 | 330 => 141 | 334 => 142 | 335 => 143 | 336 => 144 | 344 => 145 | n => n, fun | 31 => 111 | 9 => 9 | 3 => 3 | 46 => 24 | 0 => 0 | 51 => 154 | 53 => 131 | 4 => 4 | 183 => 188 | 182 => 187 | 131 => 192 | 5 => 5 | 218 => 196 | 222 => 200 | 228 => 202 | 229 => 203 | n => n, fun | n => n⟩
theorem lays190 : Go.Proofs.Lays.n190 Tryz.prog lays190_ren := {
 mixed := by kernel_rfl
 f125 := Tryz.func122.trans (congrArg some (by kernel_rfl))
 f128 := Tryz.func137.trans (congrArg some (by kernel_rfl))
 f129 := Tryz.func138.trans (congrArg some (by kernel_rfl))
 f190 := Tryz.func106.trans (congrArg some (by kernel_rfl))
 f258 := Tryz.func121.trans (congrArg some (by kernel_rfl))
 f302 := Tryz.func128.trans (congrArg some (by kernel_rfl))
 f303 := Tryz.func129.trans (congrArg some (by kernel_rfl))
 f304 := Tryz.func130.trans (congrArg some (by kernel_rfl))
 f305 := Tryz.func131.trans (congrArg some (by kernel_rfl))
 f306 := Tryz.func132.trans (congrArg some (by kernel_rfl))
 f307 := Tryz.func133.trans (congrArg some (by kernel_rfl))
 f308 := Tryz.func134.trans (congrArg some (by kernel_rfl))
 f309 := Tryz.func135.trans (congrArg some (by kernel_rfl))
 f310 := Tryz.func136.trans (congrArg some (by kernel_rfl))
 f329 := Tryz.func140.trans (congrArg some (by kernel_rfl))
 f330 := Tryz.func141.trans (congrArg some (by kernel_rfl))
 f333 := Tryz.func139.trans (congrArg some (by kernel_rfl))
 f334 := Tryz.func142.trans (congrArg some (by kernel_rfl))
 f335 := Tryz.func143.trans (congrArg some (by kernel_rfl))
 f336 := Tryz.func144.trans (congrArg some (by kernel_rfl))
 f344 := Tryz.func145.trans (congrArg some (by kernel_rfl))
 t0 := Tryz.underlying0
 a0 := Tryz.isAgg0
 z0 := Tryz.sizeOf0
 v0 := Tryz.zeroValue0
 t3 := Tryz.underlying3
 a3 := Tryz.isAgg3
 z3 := Tryz.sizeOf3
 v3 := Tryz.zeroValue3
 t4 := Tryz.underlying4
 a4 := Tryz.isAgg4
 z4 := Tryz.sizeOf4
 v4 := Tryz.zeroValue4
 t5 := Tryz.underlying5
 a5 := Tryz.isAgg5
 z5 := Tryz.sizeOf5
 v5 := Tryz.zeroValue5
 t9 := Tryz.underlying9
 a9 := Tryz.isAgg9
 z9 := Tryz.sizeOf9
 v9 := Tryz.zeroValue9
 t31 := Tryz.underlying111
 a31 := Tryz.isAgg111
 z31 := Tryz.sizeOf111
 v31 := Tryz.zeroValue111
 t46 := Tryz.underlying24
 a46 := Tryz.isAgg24
 z46 := Tryz.sizeOf24
 v46 := Tryz.zeroValue24
 t51 := Tryz.underlying154
 a51 := Tryz.isAgg154
 z51 := Tryz.sizeOf154
 v51 := Tryz.zeroValue154
 t53 := Tryz.underlying131
 a53 := Tryz.isAgg131
 z53 := Tryz.sizeOf131
 v53 := Tryz.zeroValue131
 t131 := Tryz.underlying192
 a131 := Tryz.isAgg192
 z131 := Tryz.sizeOf192
 v131 := Tryz.zeroValue192
 t182 := Tryz.underlying187
 a182 := Tryz.isAgg187
 z182 := Tryz.sizeOf187
 v182 := Tryz.zeroValue187
 t183 := Tryz.underlying188
 a183 := Tryz.isAgg188
 z183 := Tryz.sizeOf188
 v183 := Tryz.zeroValue188
 t218 := Tryz.underlying196
 a218 := Tryz.isAgg196
 z218 := Tryz.sizeOf196
 v218 := Tryz.zeroValue196
 t222 := Tryz.underlying200
 a222 := Tryz.isAgg200
 z222 := Tryz.sizeOf200
 v222 := Tryz.zeroValue200
 t228 := Tryz.underlying202
 a228 := Tryz.isAgg202
 z228 := Tryz.sizeOf202
 v228 := Tryz.zeroValue202
 t229 := Tryz.underlying203
 a229 := Tryz.isAgg203
 z229 := Tryz.sizeOf203
 v229 := Tryz.zeroValue203 }
open Go.Sort Go.RowKit in
theorem slices_Sort_string (blk off cap : Nat) (ss : List (List UInt8)) (w : World) (hH : Holds encStr w blk off ss.toArray) (hblk : blk < w.heap.size) (hsz : ss.length < 4611686018427387904) :
  Calls Tryz.prog 106 #[.slice (some ⟨blk, off, none⟩) ss.length cap] w fun e w' =>
   e = .returned (.tuple #[]) ∧ ∃ n os, w' = grow (putRow encStr (Sort.ahead w n) blk off (ss.mergeSort fun x y => decide (x ≤ y)).toArray) os := Any.slices_Sort_string lays190 blk off cap ss w hH hblk hsz
def lays99_ren : Go.Shelf.Ren := ⟨fun | 99 => 105 | 206 => 120 | n => n, fun | 9 => 9 | 4 => 4 | 3 => 3 | n => n, fun | n => n⟩
theorem lays99 : Go.Proofs.Lays.n99 Tryz.prog lays99_ren := {
 mixed := by kernel_rfl
 f99 := Tryz.func105.trans (congrArg some (by kernel_rfl))
 f206 := Tryz.func120.trans (congrArg some (by kernel_rfl))
 t3 := Tryz.underlying3
 a3 := Tryz.isAgg3
 z3 := Tryz.sizeOf3
 v3 := Tryz.zeroValue3
 t4 := Tryz.underlying4
 a4 := Tryz.isAgg4
 z4 := Tryz.sizeOf4
 v4 := Tryz.zeroValue4
 t9 := Tryz.underlying9
 a9 := Tryz.isAgg9
 z9 := Tryz.sizeOf9
 v9 := Tryz.zeroValue9 }
open Go.RowKit Go.Lib in
theorem strings_HasPrefix (s p : ByteArray) (w : World) :
  Calls Tryz.prog 105 #[.string s, .string p] w fun e w' => e = .returned (.bool (Lib.hasPrefix s.data.toList p.data.toList)) ∧ w' = w := Any.strings_HasPrefix lays99 s p w
open Go.RowKit Go.Sort in
theorem slices_Sort_string_none (p : Option Addr) (cap : Nat) (w : World) :
  Calls Tryz.prog 106 #[.slice p 0 cap] w fun e w' => e = .returned (.tuple #[]) ∧ w' = w := Any.slices_Sort_string_none lays190 p cap w
def laysnb115_ren : Go.Shelf.Ren := ⟨fun | 115 => 127 | n => n, fun | 37 => 38 | 4 => 4 | 9 => 9 | 5 => 5 | n => n, fun | n => n⟩
theorem laysnb115 : Go.Proofs.Lays.nb115 Tryz.prog laysnb115_ren := {
 mixed := by kernel_rfl
 f115 := Tryz.func127.trans (congrArg some (by kernel_rfl))
 t4 := Tryz.underlying4
 a4 := Tryz.isAgg4
 z4 := Tryz.sizeOf4
 v4 := Tryz.zeroValue4
 t9 := Tryz.underlying9
 a9 := Tryz.isAgg9
 z9 := Tryz.sizeOf9
 v9 := Tryz.zeroValue9
 t37 := Tryz.underlying38
 a37 := Tryz.isAgg38
 z37 := Tryz.sizeOf38
 v37 := Tryz.zeroValue38
 t5 := Tryz.underlying5
 a5 := Tryz.isAgg5
 z5 := Tryz.sizeOf5
 v5 := Tryz.zeroValue5 }
theorem bytes_Equal_all (p1 p2 : Option Addr) (n c m d : Nat) (xs ys : List Int) (w : World) (hx : xs.length = n) (hy : ys.length = m) (h1 : Lib.BytesIn w p1 n xs) (h2 : Lib.BytesIn w p2 m ys) :
  Calls Tryz.prog 127 #[.slice p1 n c, .slice p2 m d] w fun e w' => e = .returned (.bool (Lib.bytesOf xs == Lib.bytesOf ys)) ∧ w' = w := Any.bytes_Equal_all laysnb115 p1 p2 n c m d xs ys w hx hy h1 h2
end Go.Proofs.YtihbgigledmliaaGreat

namespace Go.Proofs.YtihbgigledmliaaGreat
open Go.RowKit Go.Maps
set_option linter.unusedVariables false
theorem info_chg : (Tryz.prog.info? 145).map (fun i => (i.zero, i.size, i.bytes)) = some (some (.agg #[.int .i64 0, .pointer none, .int .i64 0, .string ⟨#[]⟩, .pointer none]), 5, 48) := by kernel_rfl
theorem Chg.one (c : Chg) : ∀ u ∈ c.cells, u.oneCell' = true := by
 intro u hu
 simp only [Chg.cells, List.mem_cons, List.not_mem_nil, or_false] at hu
 rcases hu with rfl | rfl | rfl | rfl | rfl <;> first | rfl | (cases c.repl <;> rfl)
theorem Mov.own0 {S S' : Dsk} {d k : Nat} {w w' : World} (h : Mov S d S' w w') (hk : k < w.heap.size) (hn : ¬ S.own d k) : ¬ S'.own d k := fun ho => by
 rcases h.own k ho with h1 | h1
 ·
  exact hn h1
 ·
  omega
/-- a file more -/
def Dsk.file (S : Dsk) (b : Nat) (f : Fil) : Dsk := { S with fl := fun k => if k = b then some f else S.fl k }
theorem DK.newFile {B d : Nat} {S : Dsk} {w : World} (h : DK B d S w) (s : ByteArray) : DK B d (S.file w.heap.size ⟨s, .slice none 0 0, []⟩) (w.alloc (.cells #[.string s, .slice none 0 0] 159)) ∧ Mov S d (S.file w.heap.size ⟨s, .slice none 0 0, []⟩) w (w.alloc (.cells #[.string s, .slice none 0 0] 159)) := by
 have ha := h.alloc (.cells #[.string s, .slice none 0 0] 159)
 have hfr : S.fl w.heap.size = none := by
  cases e : S.fl w.heap.size with
  | none => rfl
  | some f =>
   have := (h.rest.kind (.inr (.inl ⟨f, e⟩))).2.1
   omega
 have lift : ∀ k f, S.fl k = some f → (S.file w.heap.size ⟨s, .slice none 0 0, []⟩).fl k = some f := fun k f hk => by
  show (if k = w.heap.size then _ else S.fl k) = _
  rw [if_neg (fun e => by rw [e, hfr] at hk; cases hk)]
  exact hk
 have back : ∀ k f, (S.file w.heap.size ⟨s, .slice none 0 0, []⟩).fl k = some f → (k = w.heap.size ∧ f = ⟨s, .slice none 0 0, []⟩) ∨ S.fl k = some f := fun k f hk => by
  have hk' : (if k = w.heap.size then some (⟨s, .slice none 0 0, []⟩ : Fil) else S.fl k) = some f := hk
  split at hk'
  ·
   rename_i e; cases hk'; exact .inl ⟨e, rfl⟩
  ·
   exact .inr hk'
 refine ⟨⟨h.base, ha.hd, ⟨ha.rest.hm, fun b f hb => ?_, fun b c f g k hb hc hf hg => ?_, fun x => ?_, ha.rest.hl, fun c hc => ?_⟩⟩, rfl, rfl, rfl, by simp, fun k hk _ => Below.heap_alloc _ _ _ hk, fun k hk => ?_⟩
 ·
  rcases back b f hb with ⟨rfl, rfl⟩ | hb
  ·
   exact ⟨Nat.le_trans h.base (Nat.le_of_lt h.lt), heap_alloc_new w _, World.ownsRow_nil _ _ _ _, by simp⟩
  ·
   exact ha.rest.hf b f hb
 ·
  rcases back b f hb with ⟨rfl, rfl⟩ | hb
  ·
   cases hf
  ·
   rcases back c g hc with ⟨rfl, rfl⟩ | hc
   ·
    cases hg
   ·
    exact h.rest.ha b c f g k hb hc hf hg
 ·
  rcases h.rest.hr x with h0 | ⟨b, f, h1, h2, h3⟩
  ·
   exact .inl h0
  ·
   exact .inr ⟨b, f, h1, lift b f h2, h3⟩
 ·
  obtain ⟨⟨f, hf⟩, h2⟩ := h.rest.hc c hc
  refine ⟨⟨f, lift _ _ hf⟩, fun b hb => ?_⟩
  obtain ⟨g, hg⟩ := h2 b hb
  exact ⟨g, lift _ _ hg⟩
 ·
  rcases hk with hk | hk | ⟨f, hk⟩ | ⟨b, f, hb, hk⟩ | hk
  ·
   exact .inl (.inl hk)
  ·
   exact .inl (.inr (.inl hk))
  ·
   rcases back k f hk with ⟨rfl, rfl⟩ | hk
   ·
    exact .inr (Nat.le_refl _)
   ·
    exact .inl (.inr (.inr (.inl ⟨f, hk⟩)))
  ·
   rcases back b f hb with ⟨rfl, rfl⟩ | hb
   ·
    cases hk
   ·
    exact .inl (.inr (.inr (.inr (.inl ⟨b, f, hb, hk⟩))))
  ·
   exact .inl (.inr (.inr (.inr (.inr hk))))
/-- the struct gets another row of changes -/
def Dsk.more (S : Dsk) (v : Value) (c : Chg) : Dsk := { S with lv := v, loose := S.loose ++ [c] }
theorem DK.push {B d : Nat} {S : Dsk} {c : Chg} {v : Value} {w w' : World} (h : DK B d S w) (hrow : w'.ownsRow B 145 5 v (S.loose.length + 1) (S.loose.flatMap Chg.cells ++ c.cells)) (hg : w.grownBy w' S.lv.ownBlock) (hv : v.ownBlock = S.lv.ownBlock ∨ ∃ k, v.ownBlock = some k ∧ w.heap.size ≤ k)
  (hc : (∃ f, S.fl c.file = some f) ∧ ∀ b, c.repl = some b → ∃ f, S.fl b = some f) :
  (w'.cell? ⟨d, 3, none⟩ = some S.lv ∧ w'.frozen? ⟨d, 3, none⟩ = false) ∧ DK B d (S.more v c) (w'.setCell ⟨d, 3, none⟩ v) ∧ Mov S d (S.more v c) w (w'.setCell ⟨d, 3, none⟩ v) := by
 have keep : ∀ k, k < w.heap.size → some k ≠ S.lv.ownBlock → w'.heap[k]? = w.heap[k]? := fun k hk hne => hg.block k hk hne
 have nl : ∀ k C t fr, w.heap[k]? = some (.cells C t fr) → t ≠ 145 → some k ≠ S.lv.ownBlock := fun k C t fr hh ht e => by
  obtain ⟨_, cur, h2⟩ := row_block h.rest.hl e.symm
  rw [h2] at hh
  simp only [Option.some.injEq, Obj.cells.injEq] at hh
  exact ht hh.2.1.symm
 have hd' : w'.heap[d]? = some (.cells (dskCells S) 80 (0, 0)) := (keep d h.lt (nl _ _ _ _ h.hd (by decide))).trans h.hd
 have ho : ∀ k, k ≠ d → (w'.setCell ⟨d, 3, none⟩ v).heap[k]? = w'.heap[k]? := fun k hk => Below.heap_setCell w' ⟨d, 3, none⟩ v k hk
 have hne : ∀ k C t fr, w.heap[k]? = some (.cells C t fr) → t ≠ 145 → k ≠ d → (w'.setCell ⟨d, 3, none⟩ v).heap[k]? = w.heap[k]? := fun k C t fr hh ht hk => (ho k hk).trans (keep k (Array.getElem?_eq_some_iff.1 hh).1 (nl k C t fr hh ht))
 refine ⟨⟨(cell_of_row w' d 3 _ _ _ hd').trans rfl, frozen_of_row w' d 3 _ _ hd'⟩, ⟨h.base, ?_, ⟨?_, fun b f hb => ?_, h.rest.ha, h.rest.hr, ?_, fun x hx => ?_⟩⟩, hg.os, hg.tape, hg.output, ?_, fun k hk hn => ?_, fun k hk => ?_⟩
 ·
  exact row_set hd' v (o := 3) (by show 3 < 6; omega)
 ·
  rcases h.rest.hm with h0 | ⟨b, h1, h2, h3⟩
  ·
   exact .inl h0
  ·
   refine .inr ⟨b, h1, h2, map_keep h3 ?_⟩
   obtain ⟨es, cl, hh⟩ := map_block h3
   refine (ho b (h.ne (.inl h1))).trans (keep b (Array.getElem?_eq_some_iff.1 hh).1 fun e => ?_)
   obtain ⟨_, cur, h5⟩ := row_block h.rest.hl e.symm
   rw [hh] at h5
   cases h5
 ·
  obtain ⟨h1, h2, h3, h4⟩ := h.rest.hf b f hb
  refine ⟨h1, (hne b _ _ _ h2 (by decide) (h.ne (.inr (.inl ⟨f, hb⟩)))).trans h2, row_keep h3 fun k hk => ?_, h4⟩
  obtain ⟨_, cur, hh⟩ := row_block h3 hk
  exact hne k _ _ _ hh (by decide) (h.ne (.inr (.inr (.inl ⟨b, f, hb, hk⟩))))
 ·
  have e : (S.loose ++ [c]).flatMap Chg.cells = S.loose.flatMap Chg.cells ++ c.cells := by simp
  show (w'.setCell ⟨d, 3, none⟩ v).ownsRow B 145 5 v (S.loose ++ [c]).length ((S.loose ++ [c]).flatMap Chg.cells)
  rw [e, List.length_append, List.length_singleton]
  refine row_keep hrow fun k hk => ho k fun e => ?_
  obtain ⟨_, cur, hh⟩ := row_block hrow hk
  rw [e, hd'] at hh
  simp only [Option.some.injEq, Obj.cells.injEq] at hh
  exact absurd hh.2.1 (by decide)
 ·
  rcases List.mem_append.1 hx with hx | hx
  ·
   exact h.rest.hc x hx
  ·
   rw [List.mem_singleton] at hx
   subst hx
   exact hc
 ·
  show w.heap.size ≤ (w'.setCell ⟨d, 3, none⟩ v).heap.size
  simp only [World.setCell, Array.size_modify]
  exact hg.size
 ·
  refine (ho k fun e => hn (.inl e)).trans (keep k hk fun e => hn (.inr (.inr (.inr (.inr e.symm)))))
 ·
  rcases hk with hk | hk | hk | hk | hk
  ·
   exact .inl (.inl hk)
  ·
   exact .inl (.inr (.inl hk))
  ·
   exact .inl (.inr (.inr (.inl hk)))
  ·
   exact .inl (.inr (.inr (.inr (.inl hk))))
  ·
   rcases hv with hv | ⟨j, hv, hj⟩
   ·
    exact .inl (.inr (.inr (.inr (.inr (hv.symm.trans hk)))))
   ·
    have : j = k := by
     have h1 : v.ownBlock = some k := hk
     rw [hv] at h1
     simpa using h1
    exact .inr (by omega)
theorem wpList_pushC {w : World} {ops : Array Oper} {rest : List Oper} {o : Oper} {a : Act} {Q : Exit → Act → World → Prop} (hgd : o.guard = none) (s x : Operand)
  (ho : o.op = .call { callee := .builtin .append, args := #[s, x], argTypes := #[78, 78] })
  (B d : Nat) (S : Dsk) (c : Chg) (h : DK B d S w) (hs : a.eval s = S.lv) (hx : a.eval x = .slice (some ⟨w.heap.size, 0, none⟩) 1 1) (hlen : S.loose.length + 1 ≤ 1000000000)
  (hc : (∃ f, S.fl c.file = some f) ∧ ∀ b, c.repl = some b → ∃ f, S.fl b = some f)
  (k : ∀ va vn vc w', w'.cell? ⟨d, 3, none⟩ = some S.lv → w'.frozen? ⟨d, 3, none⟩ = false → DK B d (S.more (.slice va vn vc) c) (w'.setCell ⟨d, 3, none⟩ (.slice va vn vc)) → Mov S d (S.more (.slice va vn vc) c) w (w'.setCell ⟨d, 3, none⟩ (.slice va vn vc)) → wpList Tryz.prog ops Q rest (a.put o.dst (.slice va vn vc)) w') :
  wpList Tryz.prog ops Q (o :: rest) a (w.alloc (.cells c.cells.toArray 145)) := by
 obtain ⟨i0, hi, hz0, hz1, hz2⟩ := info_parts info_chg
 have ha := h.alloc (.cells c.cells.toArray 145)
 refine wpList_append_own_at _ hgd s x 78 ho B 145 i0 _ 5 48 Tryz.underlying78 hi hz0 hz1 hz2 rfl (by decide) S.lv S.loose.length _ hs ha.rest.hl ⟨w.heap.size, 0, none⟩ 1 1 c.cells hx rfl ?_ c.one (by unfold maxLen; omega) (by omega) (by have h1 := h.base; have h2 := h.lt; simp; omega) ?_
 ·
  intro j u hj
  rw [Addr.add_mid, Nat.zero_add, cell_of_row _ _ _ _ _ _ (heap_alloc_new w _)]
  simpa using hj
 ·
  intro v' w' h1 h2 _ h4
  obtain ⟨g1, g2, g3⟩ := ha.push h1 h2 (by
   rcases h4 with h4 | h4
   ·
    exact .inl h4
   ·
    exact .inr ⟨_, h4, Nat.le_refl _⟩) hc
  have hm : Mov S d (S.more v' c) w (w'.setCell ⟨d, 3, none⟩ v') := (Mov.ofBelow ((Below.refl _ _).alloc (Nat.le_refl _) _)).trans g3
  rcases h1.2 with ⟨rfl, h0⟩ | ⟨g, cap, cur, rfl, _⟩
  ·
   omega
  ·
   exact k _ _ _ w' g1.1 g1.2 g2 hm
end Go.Proofs.YtihbgigledmliaaGreat

namespace Go.Proofs.YtihbgigledmliaaGreat
open Go.RowKit Go.Maps
set_option linter.unusedVariables false
def isNm (s : ByteArray) : Bool := decide (1 ≤ s.size) && decide (s.size ≤ 160)
theorem clone_c (s : ByteArray) (w : World) (hs : s.size ≤ maxLen) (hs2 : s.size ≤ 160) : Calls Tryz.prog 35 #[.string s] w fun e w' => e = .returned (.string s) ∧ Below w.heap.size w w' := by
 have H := Lib.hid (stringslite_Clone s w (by omega))
 go_enter Tryz.func35, Tryz.ntmps35
 go_wp2_with fail
 refine H.out.mono ?_
 rintro e1 w1 ⟨rfl, hb⟩
 have HB := Lib.hid hb
 clear hb H
 go_wp2_with fail
 go_ret
 exact ⟨rfl, HB.out⟩
/-- what Create leaves where nothing refuses it -/
def Dsk.made (S : Dsk) (s : ByteArray) (b m : Nat) (v : Value) : Dsk := ((S.file b ⟨s, .slice none 0 0, []⟩).put m b ⟨s, .slice none 0 0, []⟩).more v ⟨0, b, 0, ⟨#[]⟩, none⟩
set_option maxRecDepth 100000 in
set_option maxHeartbeats 4000000 in
theorem dcreate_ok {B d : Nat} {S : Dsk} {w : World} (h : DK B d S w) (s : ByteArray) (hs : s.size ≤ maxLen) (hd : S.down = false) (hn : isNm s = true) (ha : S.at s = none) (hz : Maps.size S.D < 4096) (hf : S.fuse ≠ 0) (hn1 : S.n < 1000000000) (hl : S.loose.length < 1000000000) :
  Calls Tryz.prog 50 #[.pointer (some ⟨d, 0, none⟩), .string s] w fun e w' => e = .returned (.int .i64 0) ∧ ∃ b m v, S.fl b = none ∧ DK B d (S.step.1.made s b m v) w' ∧ Mov S d (S.step.1.made s b m v) w w' := by
 have hs2 : s.size ≤ 160 := by
  unfold isNm at hn
  simp only [Bool.and_eq_true, decide_eq_true_eq] at hn
  exact hn.2
 have c1 := h.cells.2.1
 have hlk := h.rest.look hs
 rw [ha] at hlk
 simp only [ptrOf, Option.map_none] at hlk
 have hlen := fun ty => h.rest.len ty
 have hz' : ¬ (4096 : Int) ≤ (Maps.size S.D : Int) := by omega
 have hst : S.step.2 = 0 ∧ S.step.1.n = S.n ∧ S.step.1.fl = S.fl ∧ S.step.1.loose = S.loose := by
  unfold Dsk.step
  rw [if_neg hf]
  split <;> exact ⟨rfl, rfl, rfl, rfl⟩
 have HR := Lib.hid (dready_c h)
 rw [hd] at HR
 have HI := Lib.hid (isname_c s w hs)
 rw [show (decide (1 ≤ s.size) && decide (s.size ≤ 160)) = true from hn] at HI
 have HST := Lib.hid (dstep_c h)
 rw [hst.1] at HST
 have HE := Lib.hid hst.2
 clear h ha hst hz hn
 go_enter Tryz.func50, Tryz.ntmps50
 go_wp2_with fail
 refine HR.out.mono ?_
 rintro e1 w1 ⟨rfl, rfl⟩
 go_wp2_with fail
 refine HI.out.mono ?_
 rintro e2 w2 ⟨rfl, rfl⟩
 go_wp2_with fail
 refine HST.out.mono ?_
 rintro e3 w3 ⟨rfl, hk3, hm3⟩
 have HK3 := Lib.hid hk3
 have HM3 := Lib.hid hm3
 clear c1 hlk hlen hk3 hm3 HR HI HST hz'
 go_wp2_with fail
 refine (clone_c s w3 hs hs2).mono ?_
 rintro e4 w4 ⟨rfl, hb4⟩
 obtain ⟨hk5, hm5⟩ := (HK3.out.below hb4).newFile s
 have HK5 := Lib.hid hk5
 have HM5 := Lib.hid ((HM3.out.trans (Mov.ofBelow hb4)).trans hm5)
 have HFR := Lib.hid (show S.fl w4.heap.size = none from by
  have hk4 := HK3.out.below hb4
  rw [← HE.out.2.1]
  cases e : S.step.1.fl w4.heap.size with
  | none => rfl
  | some f =>
   have := (hk4.rest.kind (.inr (.inl ⟨f, e⟩))).2.1
   omega)
 have hn5 : (S.step.1.file w4.heap.size ⟨s, .slice none 0 0, []⟩).n < maxLen := by
  show S.step.1.n < maxLen
  rw [HE.out.1]
  unfold maxLen
  omega
 obtain ⟨b, hbe⟩ : ∃ b, b = w4.heap.size := ⟨_, rfl⟩
 have HP := Lib.hid (dput_c hk5 (b := w4.heap.size) (f := ⟨s, .slice none 0 0, []⟩) (by show (if _ then _ else _) = _; rw [if_pos rfl]) hs hn5)
 rw [← hbe] at HK5 HM5 HFR HP hn5
 clear hb4 hk5 hm5 HK3 HM3 hn5
 go_wp2_with fail
 rw [← hbe]
 refine HP.out.mono ?_
 rintro e6 w6 ⟨rfl, m, hk6, hm6⟩
 have HK6 := Lib.hid hk6
 have HM6 := Lib.hid (HM5.out.trans hm6)
 have c3 := hk6.cells.2.2.2.1
 have hll : ((S.step.1.file b ⟨s, .slice none 0 0, []⟩).put m b ⟨s, .slice none 0 0, []⟩).loose.length + 1 ≤ 1000000000 := by
  show S.step.1.loose.length + 1 ≤ _
  rw [HE.out.2.2]
  omega
 have HLL := Lib.hid hll
 clear hk6 hm6 hll HK5 HM5 HP hbe
 obtain ⟨SX, hSX⟩ : ∃ SX, SX = (S.step.1.file b ⟨s, .slice none 0 0, []⟩).put m b ⟨s, .slice none 0 0, []⟩ := ⟨_, rfl⟩
 have HC := Lib.hid (show (∃ f, SX.fl b = some f) ∧ ∀ b', (none : Option Nat) = some b' → ∃ f, SX.fl b' = some f from ⟨⟨⟨s, .slice none 0 0, []⟩, by rw [hSX]; show (if _ then _ else _) = _; rw [if_pos rfl]⟩, fun b' hb => by cases hb⟩)
 rw [← hSX] at HK6 HM6 HLL c3
 have HSX := Lib.hid hSX
 clear hSX
 go_wp2_with (at_builtin; refine wpList_pushC rfl (.tmp 48) (.tmp 51) rfl B d SX ⟨0, b, 0, ⟨#[]⟩, none⟩ HK6.out (by rfl) (by rfl) HLL.out HC.out ?_; intro va vn vc w7 c7 f7 hk7 hm7; have HK7 := Lib.hid hk7; have HM7 := Lib.hid hm7; clear hk7 hm7 c3)
 go_ret
 refine ⟨rfl, b, m, .slice va vn vc, HFR.out, ?_, ?_⟩
 ·
  have := HK7.out
  rw [HSX.out] at this
  exact this
 ·
  have := HM6.out.trans HM7.out
  rw [HSX.out] at this
  exact this
end Go.Proofs.YtihbgigledmliaaGreat
namespace Go.Proofs.YtihbgigledmliaaGreat
open Go.RowKit Go.Maps
set_option linter.unusedVariables false
set_option maxRecDepth 100000 in
set_option maxHeartbeats 4000000 in
theorem dcreate_down {B d : Nat} {S : Dsk} {w : World} (h : DK B d S w) (s : ByteArray) (hs : s.size ≤ maxLen) (hd : S.down = true) : Calls Tryz.prog 50 #[.pointer (some ⟨d, 0, none⟩), .string s] w fun e w' => e = .returned (.int .i64 5) ∧ w' = w := by
 have HR := Lib.hid (dready_c h)
 rw [hd] at HR
 clear h
 go_enter Tryz.func50, Tryz.ntmps50
 go_wp2_with fail
 refine HR.out.mono ?_
 rintro e1 w1 ⟨rfl, rfl⟩
 go_wp2_with fail
 go_ret
 exact ⟨rfl, rfl⟩
set_option maxRecDepth 100000 in
set_option maxHeartbeats 4000000 in
theorem dcreate_bad {B d : Nat} {S : Dsk} {w : World} (h : DK B d S w) (s : ByteArray) (hs : s.size ≤ maxLen) (hd : S.down = false) (hn : isNm s = false) : Calls Tryz.prog 50 #[.pointer (some ⟨d, 0, none⟩), .string s] w fun e w' => e = .returned (.int .i64 1) ∧ w' = w := by
 have HR := Lib.hid (dready_c h)
 rw [hd] at HR
 have HI := Lib.hid (isname_c s w hs)
 rw [show (decide (1 ≤ s.size) && decide (s.size ≤ 160)) = false from hn] at HI
 clear h hn
 go_enter Tryz.func50, Tryz.ntmps50
 go_wp2_with fail
 refine HR.out.mono ?_
 rintro e1 w1 ⟨rfl, rfl⟩
 go_wp2_with fail
 refine HI.out.mono ?_
 rintro e2 w2 ⟨rfl, rfl⟩
 go_wp2_with fail
 go_ret
 exact ⟨rfl, rfl⟩
set_option maxRecDepth 100000 in
set_option maxHeartbeats 4000000 in
theorem dcreate_twice {B d : Nat} {S : Dsk} {w : World} (h : DK B d S w) (s : ByteArray) (hs : s.size ≤ maxLen) (hd : S.down = false) (hn : isNm s = true) {b : Nat} (ha : S.at s = some b) : Calls Tryz.prog 50 #[.pointer (some ⟨d, 0, none⟩), .string s] w fun e w' => e = .returned (.int .i64 7) ∧ w' = w := by
 have HR := Lib.hid (dready_c h)
 rw [hd] at HR
 have HI := Lib.hid (isname_c s w hs)
 rw [show (decide (1 ≤ s.size) && decide (s.size ≤ 160)) = true from hn] at HI
 have c1 := h.cells.2.1
 have hlk := h.rest.look hs
 rw [ha] at hlk
 simp only [ptrOf, Option.map_some] at hlk
 clear h hn ha
 go_enter Tryz.func50, Tryz.ntmps50
 go_wp2_with fail
 refine HR.out.mono ?_
 rintro e1 w1 ⟨rfl, rfl⟩
 go_wp2_with fail
 refine HI.out.mono ?_
 rintro e2 w2 ⟨rfl, rfl⟩
 go_wp2_with fail
 go_ret
 exact ⟨rfl, rfl⟩
set_option maxRecDepth 100000 in
set_option maxHeartbeats 4000000 in
theorem dcreate_full {B d : Nat} {S : Dsk} {w : World} (h : DK B d S w) (s : ByteArray) (hs : s.size ≤ maxLen) (hd : S.down = false) (hn : isNm s = true) (ha : S.at s = none) (hz : 4096 ≤ Maps.size S.D) : Calls Tryz.prog 50 #[.pointer (some ⟨d, 0, none⟩), .string s] w fun e w' => e = .returned (.int .i64 4) ∧ w' = w := by
 have HR := Lib.hid (dready_c h)
 rw [hd] at HR
 have HI := Lib.hid (isname_c s w hs)
 rw [show (decide (1 ≤ s.size) && decide (s.size ≤ 160)) = true from hn] at HI
 have c1 := h.cells.2.1
 have hlk := h.rest.look hs
 rw [ha] at hlk
 simp only [ptrOf, Option.map_none] at hlk
 have hlen := fun ty => h.rest.len ty
 have hz' : (4096 : Int) ≤ (Maps.size S.D : Int) := by omega
 clear h hn ha hz
 go_enter Tryz.func50, Tryz.ntmps50
 go_wp2_with fail
 refine HR.out.mono ?_
 rintro e1 w1 ⟨rfl, rfl⟩
 go_wp2_with fail
 refine HI.out.mono ?_
 rintro e2 w2 ⟨rfl, rfl⟩
 go_wp2_with fail
 go_ret
 exact ⟨rfl, rfl⟩
set_option maxRecDepth 100000 in
set_option maxHeartbeats 4000000 in
theorem dcreate_power {B d : Nat} {S : Dsk} {w : World} (h : DK B d S w) (s : ByteArray) (hs : s.size ≤ maxLen) (hd : S.down = false) (hn : isNm s = true) (ha : S.at s = none) (hz : Maps.size S.D < 4096) (hf : S.fuse = 0) : Calls Tryz.prog 50 #[.pointer (some ⟨d, 0, none⟩), .string s] w fun e w' => e = .returned (.int .i64 5) ∧ DK B d { S with down := true } w' ∧ Mov S d { S with down := true } w w' := by
 have HR := Lib.hid (dready_c h)
 rw [hd] at HR
 have HI := Lib.hid (isname_c s w hs)
 rw [show (decide (1 ≤ s.size) && decide (s.size ≤ 160)) = true from hn] at HI
 have c1 := h.cells.2.1
 have hlk := h.rest.look hs
 rw [ha] at hlk
 simp only [ptrOf, Option.map_none] at hlk
 have hlen := fun ty => h.rest.len ty
 have hz' : ¬ (4096 : Int) ≤ (Maps.size S.D : Int) := by omega
 have hst : S.step = ({ S with down := true }, 5) := by
  unfold Dsk.step
  rw [if_pos hf]
 have HST := Lib.hid (dstep_c h)
 rw [hst] at HST
 clear h hn ha hz hst
 go_enter Tryz.func50, Tryz.ntmps50
 go_wp2_with fail
 refine HR.out.mono ?_
 rintro e1 w1 ⟨rfl, rfl⟩
 go_wp2_with fail
 refine HI.out.mono ?_
 rintro e2 w2 ⟨rfl, rfl⟩
 go_wp2_with fail
 refine HST.out.mono ?_
 rintro e3 w3 ⟨rfl, hk3, hm3⟩
 have HK3 := Lib.hid hk3
 have HM3 := Lib.hid hm3
 clear c1 hlk hlen hk3 hm3 HR HI HST hz'
 go_wp2_with fail
 go_ret
 exact ⟨rfl, HK3.out, HM3.out⟩
/-- what Remove leaves where nothing refuses it -/
def Dsk.gone (S : Dsk) (f : Fil) (b : Nat) (v : Value) : Dsk := (S.drop f).more v ⟨2, b, 0, ⟨#[]⟩, none⟩
set_option maxRecDepth 100000 in
set_option maxHeartbeats 4000000 in
theorem dremove_ok {B d : Nat} {S : Dsk} {w : World} (h : DK B d S w) (s : ByteArray) (hs : s.size ≤ maxLen) (hd : S.down = false) {b : Nat} {f : Fil} (ha : S.at s = some b) (hfl : S.fl b = some f) (hf : S.fuse ≠ 0) (hl : S.loose.length < 1000000000) :
  Calls Tryz.prog 51 #[.pointer (some ⟨d, 0, none⟩), .string s] w fun e w' => e = .returned (.int .i64 0) ∧ ∃ v, DK B d (S.step.1.gone f b v) w' ∧ Mov S d (S.step.1.gone f b v) w w' := by
 have hfs : f.nm = s := by
  obtain ⟨g, h1, h2⟩ := h.rest.at ha
  rw [hfl] at h1
  cases h1
  exact h2
 have hst : S.step.2 = 0 ∧ S.step.1.n = S.n ∧ S.step.1.fl = S.fl ∧ S.step.1.loose = S.loose := by
  unfold Dsk.step
  rw [if_neg hf]
  split <;> exact ⟨rfl, rfl, rfl, rfl⟩
 have HST := Lib.hid (dstep_c h)
 rw [hst.1] at HST
 have HE := Lib.hid hst.2
 have HF := Lib.hid (dfind_c h s hs)
 rw [show S.find s = (some b, 0) from by unfold Dsk.find; rw [hd, ha]; rfl] at HF
 simp only [ptrOf, Option.map_some] at HF
 have HFL := Lib.hid hfl
 have hns : f.nm.size ≤ maxLen := by rw [hfs]; exact hs
 have HNS := Lib.hid hns
 clear h hst hfs ha hfl hns
 go_enter Tryz.func51, Tryz.ntmps51
 go_wp2_with fail
 refine HF.out.mono ?_
 rintro e1 w1 ⟨rfl, rfl⟩
 go_wp2_with fail
 refine HST.out.mono ?_
 rintro e3 w3 ⟨rfl, hk3, hm3⟩
 have HM3 := Lib.hid hm3
 have HD := Lib.hid (ddrop_c hk3 (b := b) (f := f) (by rw [HE.out.2.1]; exact HFL.out) HNS.out)
 clear hk3 hm3 HST HF
 go_wp2_with fail
 refine HD.out.mono ?_
 rintro e6 w6 ⟨rfl, hk6, hm6⟩
 have HK6 := Lib.hid hk6
 have HM6 := Lib.hid (HM3.out.trans hm6)
 have c3 := hk6.cells.2.2.2.1
 have HLL := Lib.hid (show (S.step.1.drop f).loose.length + 1 ≤ 1000000000 by
  show S.step.1.loose.length + 1 ≤ _
  rw [HE.out.2.2]
  omega)
 have HC := Lib.hid (show (∃ g, (S.step.1.drop f).fl b = some g) ∧ ∀ b', (none : Option Nat) = some b' → ∃ g, (S.step.1.drop f).fl b' = some g from ⟨⟨f, by show S.step.1.fl b = _; rw [HE.out.2.1]; exact HFL.out⟩, fun b' hb => by cases hb⟩)
 clear hk6 hm6 HD HM3
 obtain ⟨SX, hSX⟩ : ∃ SX, SX = S.step.1.drop f := ⟨_, rfl⟩
 rw [← hSX] at HK6 HM6 HLL HC c3
 have HSX := Lib.hid hSX
 clear hSX
 go_wp2_with (at_builtin; refine wpList_pushC rfl (.tmp 29) (.tmp 32) rfl B d SX ⟨2, b, 0, ⟨#[]⟩, none⟩ HK6.out (by rfl) (by rfl) HLL.out HC.out ?_; intro va vn vc w7 c7 f7 hk7 hm7; have HK7 := Lib.hid hk7; have HM7 := Lib.hid hm7; clear hk7 hm7 c3)
 go_ret
 refine ⟨rfl, .slice va vn vc, ?_, ?_⟩
 ·
  have := HK7.out
  rw [HSX.out] at this
  exact this
 ·
  have := HM6.out.trans HM7.out
  rw [HSX.out] at this
  exact this
set_option maxRecDepth 100000 in
set_option maxHeartbeats 4000000 in
theorem dremove_no {B d : Nat} {S : Dsk} {w : World} (h : DK B d S w) (s : ByteArray) (hs : s.size ≤ maxLen) (hn : (S.find s).2 ≠ 0) : Calls Tryz.prog 51 #[.pointer (some ⟨d, 0, none⟩), .string s] w fun e w' => e = .returned (.int .i64 (S.find s).2) ∧ w' = w := by
 have HF := Lib.hid (dfind_c h s hs)
 have hn' : ((S.find s).2 == 0) = false := beq_eq_false_iff_ne.2 hn
 clear h
 obtain ⟨x, hx⟩ : ∃ x, x = (S.find s).2 := ⟨_, rfl⟩
 obtain ⟨y, hy⟩ : ∃ y, y = ptrOf (S.find s).1 := ⟨_, rfl⟩
 rw [← hx] at HF hn hn' ⊢
 rw [← hy] at HF
 clear hx
 have hy' : ∃ z, y = .pointer z := ⟨_, hy⟩
 obtain ⟨z, rfl⟩ := hy'
 clear hy
 go_enter Tryz.func51, Tryz.ntmps51
 go_wp2_with fail
 refine HF.out.mono ?_
 rintro e1 w1 ⟨rfl, rfl⟩
 go_wp2_with fail
 go_ret
 exact ⟨rfl, rfl⟩
set_option maxRecDepth 100000 in
set_option maxHeartbeats 4000000 in
theorem dremove_power {B d : Nat} {S : Dsk} {w : World} (h : DK B d S w) (s : ByteArray) (hs : s.size ≤ maxLen) (hd : S.down = false) {b : Nat} (ha : S.at s = some b) (hf : S.fuse = 0) : Calls Tryz.prog 51 #[.pointer (some ⟨d, 0, none⟩), .string s] w fun e w' => e = .returned (.int .i64 5) ∧ DK B d { S with down := true } w' ∧ Mov S d { S with down := true } w w' := by
 have hst : S.step = ({ S with down := true }, 5) := by
  unfold Dsk.step
  rw [if_pos hf]
 have HST := Lib.hid (dstep_c h)
 rw [hst] at HST
 have HF := Lib.hid (dfind_c h s hs)
 rw [show S.find s = (some b, 0) from by unfold Dsk.find; rw [hd, ha]; rfl] at HF
 simp only [ptrOf, Option.map_some] at HF
 clear h hst
 go_enter Tryz.func51, Tryz.ntmps51
 go_wp2_with fail
 refine HF.out.mono ?_
 rintro e1 w1 ⟨rfl, rfl⟩
 go_wp2_with fail
 refine HST.out.mono ?_
 rintro e3 w3 ⟨rfl, hk3, hm3⟩
 have HK3 := Lib.hid hk3
 have HM3 := Lib.hid hm3
 clear hk3 hm3 HF HST
 go_wp2_with fail
 go_ret
 exact ⟨rfl, HK3.out, HM3.out⟩
/-- all changes last -/
def Dsk.sure (S : Dsk) : Dsk := { S with lv := .slice none 0 0, loose := [] }
theorem DK.sync {B d : Nat} {S : Dsk} {w : World} (h : DK B d S w) : DK B d S.sure (w.setCell ⟨d, 3, none⟩ (.slice none 0 0)) ∧ Mov S d S.sure w (w.setCell ⟨d, 3, none⟩ (.slice none 0 0)) := by
 have ho : ∀ k, k ≠ d → (w.setCell ⟨d, 3, none⟩ (.slice none 0 0)).heap[k]? = w.heap[k]? := fun k hk => Below.heap_setCell w ⟨d, 3, none⟩ _ k hk
 have hr := h.rest.keep (w' := w.setCell ⟨d, 3, none⟩ (.slice none 0 0)) fun k hk => ho k (h.ne hk)
 refine ⟨⟨h.base, row_set h.hd (.slice none 0 0) (o := 3) (by show 3 < 6; omega), ⟨hr.hm, hr.hf, hr.ha, hr.hr, World.ownsRow_nil _ _ _ _, fun c hc => by cases hc⟩⟩, rfl, rfl, rfl, by simp [World.setCell], fun k hk hn => ho k fun e => hn (.inl e), fun k hk => ?_⟩
 rcases hk with hk | hk | hk | hk | hk
 ·
  exact .inl (.inl hk)
 ·
  exact .inl (.inr (.inl hk))
 ·
  exact .inl (.inr (.inr (.inl hk)))
 ·
  exact .inl (.inr (.inr (.inr (.inl hk))))
 ·
  cases hk
set_option maxRecDepth 100000 in
set_option maxHeartbeats 4000000 in
theorem dsync_ok {B d : Nat} {S : Dsk} {w : World} (h : DK B d S w) (hd : S.down = false) (hf : S.fuse ≠ 0) : Calls Tryz.prog 47 #[.pointer (some ⟨d, 0, none⟩)] w fun e w' => e = .returned (.int .i64 0) ∧ DK B d S.step.1.sure w' ∧ Mov S d S.step.1.sure w w' := by
 have HR := Lib.hid (dready_c h)
 rw [hd] at HR
 have hst : S.step.2 = 0 ∧ S.step.1.n = S.n ∧ S.step.1.fl = S.fl ∧ S.step.1.loose = S.loose := by
  unfold Dsk.step
  rw [if_neg hf]
  split <;> exact ⟨rfl, rfl, rfl, rfl⟩
 have HST := Lib.hid (dstep_c h)
 rw [hst.1] at HST
 have HE := Lib.hid hst.2
 clear h hst
 go_enter Tryz.func47, Tryz.ntmps47
 go_wp2_with fail
 refine HR.out.mono ?_
 rintro e1 w1 ⟨rfl, rfl⟩
 go_wp2_with fail
 refine HST.out.mono ?_
 rintro e3 w3 ⟨rfl, hk3, hm3⟩
 obtain ⟨hk4, hm4⟩ := hk3.sync
 have HK4 := Lib.hid hk4
 have HM4 := Lib.hid (hm3.trans hm4)
 have c3 := hk3.cells.2.2.2.1
 have f3 : w3.frozen? ⟨d, 3, none⟩ = false := frozen_of_row w3 d 3 _ _ hk3.hd
 clear hk3 hm3 hk4 hm4 HR HST
 go_wp2_with fail
 go_ret
 exact ⟨rfl, HK4.out, HM4.out⟩
set_option maxRecDepth 100000 in
set_option maxHeartbeats 4000000 in
theorem dsync_down {B d : Nat} {S : Dsk} {w : World} (h : DK B d S w) (hd : S.down = true) : Calls Tryz.prog 47 #[.pointer (some ⟨d, 0, none⟩)] w fun e w' => e = .returned (.int .i64 5) ∧ w' = w := by
 have HR := Lib.hid (dready_c h)
 rw [hd] at HR
 clear h
 go_enter Tryz.func47, Tryz.ntmps47
 go_wp2_with fail
 refine HR.out.mono ?_
 rintro e1 w1 ⟨rfl, rfl⟩
 go_wp2_with fail
 go_ret
 exact ⟨rfl, rfl⟩
set_option maxRecDepth 100000 in
set_option maxHeartbeats 4000000 in
theorem dsync_power {B d : Nat} {S : Dsk} {w : World} (h : DK B d S w) (hd : S.down = false) (hf : S.fuse = 0) : Calls Tryz.prog 47 #[.pointer (some ⟨d, 0, none⟩)] w fun e w' => e = .returned (.int .i64 5) ∧ DK B d { S with down := true } w' ∧ Mov S d { S with down := true } w w' := by
 have HR := Lib.hid (dready_c h)
 rw [hd] at HR
 have hst : S.step = ({ S with down := true }, 5) := by
  unfold Dsk.step
  rw [if_pos hf]
 have HST := Lib.hid (dstep_c h)
 rw [hst] at HST
 clear h hst
 go_enter Tryz.func47, Tryz.ntmps47
 go_wp2_with fail
 refine HR.out.mono ?_
 rintro e1 w1 ⟨rfl, rfl⟩
 go_wp2_with fail
 refine HST.out.mono ?_
 rintro e3 w3 ⟨rfl, hk3, hm3⟩
 have HK3 := Lib.hid hk3
 have HM3 := Lib.hid hm3
 clear hk3 hm3 HR HST
 go_wp2_with fail
 go_ret
 exact ⟨rfl, HK3.out, HM3.out⟩
set_option maxRecDepth 100000 in
set_option maxHeartbeats 4000000 in
theorem dused_c {B d : Nat} {S : Dsk} {w : World} (h : DK B d S w) : Calls Tryz.prog 58 #[.pointer (some ⟨d, 0, none⟩)] w fun e w' => e = .returned (.int .i64 S.used) ∧ w' = w := by
 have c2 := h.cells.2.2.1
 clear h
 go_enter Tryz.func58, Tryz.ntmps58
 go_wp2_with fail
 go_ret
 exact ⟨rfl, rfl⟩
set_option maxRecDepth 100000 in
set_option maxHeartbeats 4000000 in
theorem dloose_c {B d : Nat} {S : Dsk} {w : World} (h : DK B d S w) : Calls Tryz.prog 60 #[.pointer (some ⟨d, 0, none⟩)] w fun e w' => e = .returned (.int .i64 (S.loose.length : Int)) ∧ w' = w := by
 have c3 := h.cells.2.2.2.1
 have hl := h.rest.hl.2
 clear h
 rcases hl with ⟨h1, h2⟩ | ⟨g, cap, cur, h1, _⟩
 ·
  rw [h1] at c3
  rw [h2]
  go_enter Tryz.func60, Tryz.ntmps60
  go_wp2_with fail
  go_ret
  exact ⟨rfl, rfl⟩
 ·
  rw [h1] at c3
  go_enter Tryz.func60, Tryz.ntmps60
  go_wp2_with fail
  go_ret
  exact ⟨rfl, rfl⟩
end Go.Proofs.YtihbgigledmliaaGreat
namespace Go.Proofs.YtihbgigledmliaaGreat
open Go.RowKit Go.Maps
set_option linter.unusedVariables false
theorem at_put {S : Dsk} (h : IsMap S.D) (m b : Nat) (f : Fil) (x : ByteArray) : (S.put m b f).at x = if x = f.nm then some b else S.at x := by
 unfold Dsk.at Dsk.put
 by_cases e : x = f.nm
 ·
  subst e
  simp only [if_true]
  rw [atKey_put_same h (by trivial)]
  simp
 ·
  rw [if_neg e]
  simp only
  rw [atKey_put_other (fun y => e (keyS_inj y))]
theorem at_drop {S : Dsk} (f : Fil) (x : ByteArray) : (S.drop f).at x = if x = f.nm then none else S.at x := by
 unfold Dsk.at Dsk.drop
 by_cases e : x = f.nm
 ·
  subst e
  simp only [if_true]
  rw [atKey_del_same]
 ·
  rw [if_neg e]
  simp only
  rw [atKey_del_other (fun y => e (keyS_inj y))]
theorem DKr.has {B : Nat} {S : Dsk} {w : World} (h : DKr B S w) (s : ByteArray) : Maps.has S.D (keyS s) = (S.at s).isSome := by
 rcases h.hr s with h0 | ⟨b, f, h1, h2, h3⟩
 ·
  rw [h0]
  unfold Dsk.at
  rw [atKey_of_not_has h0]
  rfl
 ·
  have e : S.at s = some b := by unfold Dsk.at; rw [h1]; simp
  rw [e]
  cases hh : Maps.has S.D (keyS s) with
  | true => rfl
  | false =>
   rw [atKey_of_not_has hh] at h1
   cases h1
end Go.Proofs.YtihbgigledmliaaGreat

namespace Go.Proofs.YtihbgigledmliaaGreat
open Go.RowKit Go.Maps
set_option linter.unusedVariables false
/-- bytes that come in, in memory that is not the disk's -/
structure RdN (S : Dsk) (d : Nat) (w : World) (pa : Option Addr) (n c : Nat) (ps : List Nat) : Prop where
 rd : Rd w pa n ps
 no : ∀ b o s, pa = some ⟨b, o, s⟩ → n ≠ 0 → ¬ S.own d b
 nil : pa = none → c = 0
theorem RdN.mov {S S' : Dsk} {d : Nat} {w w' : World} {pa : Option Addr} {n c : Nat} {ps : List Nat} (h : RdN S d w pa n c ps) (hm : Mov S d S' w w') : RdN S' d w' pa n c ps := by
 obtain ⟨⟨h1, h2, h3⟩, h4, h5⟩ := h
 by_cases h0 : n = 0
 ·
  exact ⟨⟨h1, h2, .inl h0⟩, fun _ _ _ _ hn => absurd h0 hn, h5⟩
 ·
  rcases h3 with h3 | ⟨b, o, rfl, hb, hc⟩
  ·
   exact absurd h3 h0
  ·
   have hno := h4 b o none rfl h0
   refine ⟨⟨h1, h2, .inr ⟨b, o, rfl, Nat.lt_of_lt_of_le hb hm.size, fun i hi => ?_⟩⟩, fun b' o' s' e hn => ?_, h5⟩
   ·
    rw [World.cell?_of_block (hm.block b hb hno)]
    exact hc i hi
   ·
    cases e
    exact hm.own0 hb hno
/-- a file with more bytes -/
def Dsk.grow (S : Dsk) (b : Nat) (f : Fil) (v : Value) (ps : List Nat) : Dsk := S.file b ⟨f.nm, v, f.zs ++ ps⟩
theorem DK.rowSet {B d b : Nat} {S : Dsk} {f : Fil} {v : Value} {zs' : List Nat} {w w' : World} (h : DK B d S w) (hf : S.fl b = some f) (hps : ∀ z ∈ zs', z < 256) (hrow : Own w' B v zs') (hg : w.grownBy w' f.row.ownBlock) (hv : v.ownBlock = f.row.ownBlock ∨ v.ownBlock = some w.heap.size) :
  (w'.cell? ⟨b, 1, none⟩ = some f.row ∧ w'.frozen? ⟨b, 1, none⟩ = false) ∧ DK B d (S.file b ⟨f.nm, v, zs'⟩) (w'.setCell ⟨b, 1, none⟩ v) ∧ Mov S d (S.file b ⟨f.nm, v, zs'⟩) w (w'.setCell ⟨b, 1, none⟩ v) := by
 obtain ⟨hfB, hfh, hfr, hfz⟩ := h.rest.hf b f hf
 have keep : ∀ k, k < w.heap.size → some k ≠ f.row.ownBlock → w'.heap[k]? = w.heap[k]? := fun k hk hne => hg.block k hk hne
 have nl : ∀ k o, w.heap[k]? = some o → (∀ C fr, o ≠ .cells C 5 fr) → some k ≠ f.row.ownBlock := fun k o hh ht e => by
  obtain ⟨_, cur, h2⟩ := row_block hfr e.symm
  rw [h2] at hh
  exact ht _ _ (Option.some.inj hh).symm
 have ct : ∀ (C : Array Value) (t : TypeId) (fr : Nat × Nat), t ≠ 5 → ∀ C' fr', (Obj.cells C t fr) ≠ .cells C' 5 fr' := fun C t fr ht C' fr' e => ht (by cases e; rfl)
 have hb' : w'.heap[b]? = some (.cells (filCells f) 159 (0, 0)) := (keep b (Array.getElem?_eq_some_iff.1 hfh).1 (nl _ _ hfh (ct _ _ _ (by decide)))).trans hfh
 have ho : ∀ k, k ≠ b → (w'.setCell ⟨b, 1, none⟩ v).heap[k]? = w'.heap[k]? := fun k hk => Below.heap_setCell w' ⟨b, 1, none⟩ v k hk
 have nb : ∀ k o, w.heap[k]? = some o → (∀ C fr, o ≠ .cells C 159 fr) → k ≠ b := fun k o hh ht e => by
  subst e
  rw [hfh] at hh
  exact ht _ _ (Option.some.inj hh).symm
 have fct : ∀ (C : Array Value) (t : TypeId) (fr : Nat × Nat), t ≠ 159 → ∀ C' fr', (Obj.cells C t fr) ≠ .cells C' 159 fr' := fun C t fr ht C' fr' e => ht (by cases e; rfl)
 have all : ∀ k o, w.heap[k]? = some o → (∀ C fr, o ≠ .cells C 159 fr) → some k ≠ f.row.ownBlock → (w'.setCell ⟨b, 1, none⟩ v).heap[k]? = w.heap[k]? := fun k o hh h1 h2 => (ho k (nb k o hh h1)).trans (keep k (Array.getElem?_eq_some_iff.1 hh).1 h2)
 have fl : ∀ c g, (S.file b ⟨f.nm, v, zs'⟩).fl c = some g → (c = b ∧ g = ⟨f.nm, v, zs'⟩) ∨ (c ≠ b ∧ S.fl c = some g) := fun c g hc => by
  have hc' : (if c = b then some (⟨f.nm, v, zs'⟩ : Fil) else S.fl c) = some g := hc
  split at hc'
  ·
   rename_i e; cases hc'; exact .inl ⟨e, rfl⟩
  ·
   rename_i e; exact .inr ⟨e, hc'⟩
 have up : ∀ c g, S.fl c = some g → ∃ g', (S.file b ⟨f.nm, v, zs'⟩).fl c = some g' ∧ g'.nm = g.nm := fun c g hc => by
  by_cases e : c = b
  ·
   subst e
   rw [hf] at hc
   cases hc
   exact ⟨⟨f.nm, v, zs'⟩, by show (if _ then _ else _) = _; rw [if_pos rfl], rfl⟩
  ·
   exact ⟨g, by show (if _ then _ else _) = _; rw [if_neg e]; exact hc, rfl⟩
 have vb : ∀ k, v.ownBlock = some k → f.row.ownBlock = some k ∨ w.heap.size ≤ k := fun k hk => by
  rcases hv with hv | hv
  ·
   exact .inl (hv.symm.trans hk)
  ·
   rw [hv] at hk
   exact .inr (by have := Option.some.inj hk; omega)
 refine ⟨⟨(cell_of_row w' b 1 _ _ _ hb').trans rfl, frozen_of_row w' b 1 _ _ hb'⟩, ⟨h.base, ?_, ⟨?_, fun c g hc => ?_, fun c c' g g' k hc hc' hk hk' => ?_, fun x => ?_, ?_, fun c hc => ?_⟩⟩, hg.os, hg.tape, hg.output, ?_, fun k hk hn => ?_, fun k hk => ?_⟩
 ·
  exact (all d _ h.hd (fct _ _ _ (by decide)) (nl _ _ h.hd (ct _ _ _ (by decide)))).trans h.hd
 ·
  rcases h.rest.hm with h0 | ⟨m, h1, h2, h3⟩
  ·
   exact .inl h0
  ·
   obtain ⟨es, cl, hh⟩ := map_block h3
   exact .inr ⟨m, h1, h2, map_keep h3 (all m _ hh (fun C fr e => by cases e) (nl _ _ hh (fun C fr e => by cases e)))⟩
 ·
  rcases fl c g hc with ⟨rfl, rfl⟩ | ⟨hne, hc⟩
  ·
   refine ⟨hfB, row_set hb' v (o := 1) (by show 1 < 2; omega), row_keep hrow fun k hk => ho k fun e => ?_, hps⟩
   ·
    obtain ⟨_, cur, hh⟩ := row_block hrow hk
    rw [e, hb'] at hh
    simp only [Option.some.injEq, Obj.cells.injEq] at hh
    exact absurd hh.2.1 (by decide)
  ·
   obtain ⟨h1, h2, h3, h4⟩ := h.rest.hf c g hc
   refine ⟨h1, ?_, row_keep h3 fun k hk => ?_, h4⟩
   ·
    exact (ho c hne).trans ((keep c (Array.getElem?_eq_some_iff.1 h2).1 (nl _ _ h2 (ct _ _ _ (by decide)))).trans h2)
   ·
    obtain ⟨_, cur, hh⟩ := row_block h3 hk
    exact all k _ hh (fct _ _ _ (by decide)) fun e => hne (h.rest.ha c b g f k hc hf hk e.symm)
 ·
  rcases fl c g hc with ⟨e1, e2⟩ | ⟨hne, hcS⟩
  ·
   rcases fl c' g' hc' with ⟨e3, e4⟩ | ⟨hne', hcS'⟩
   ·
    rw [e1, e3]
   ·
    subst e2
    rcases vb k hk with h1 | h1
    ·
     exact e1.trans (h.rest.ha b c' f g' k hf hcS' h1 hk')
    ·
     have := ((h.rest.hf c' g' hcS').2.2.1.lt k hk').2
     omega
  ·
   rcases fl c' g' hc' with ⟨e3, e4⟩ | ⟨hne', hcS'⟩
   ·
    subst e4
    rcases vb k hk' with h1 | h1
    ·
     exact (h.rest.ha c b g f k hcS hf hk h1).trans e3.symm
    ·
     have := ((h.rest.hf c g hcS).2.2.1.lt k hk).2
     omega
   ·
    exact h.rest.ha c c' g g' k hcS hcS' hk hk'
 ·
  rcases h.rest.hr x with h0 | ⟨c, g, h1, h2, h3⟩
  ·
   exact .inl h0
  ·
   obtain ⟨g', h4, h5⟩ := up c g h2
   exact .inr ⟨c, g', h1, h4, h5.trans h3⟩
 ·
  refine row_keep h.rest.hl fun k hk => ?_
  obtain ⟨_, cur, hh⟩ := row_block h.rest.hl hk
  exact all k _ hh (fct _ _ _ (by decide)) (nl _ _ hh (ct _ _ _ (by decide)))
 ·
  obtain ⟨⟨g, h1⟩, h2⟩ := h.rest.hc c hc
  refine ⟨?_, fun b' hb' => ?_⟩
  ·
   obtain ⟨g', h3, _⟩ := up _ g h1
   exact ⟨g', h3⟩
  ·
   obtain ⟨g2, h3⟩ := h2 b' hb'
   obtain ⟨g', h4, _⟩ := up _ g2 h3
   exact ⟨g', h4⟩
 ·
  show w.heap.size ≤ (w'.setCell ⟨b, 1, none⟩ v).heap.size
  simp only [World.setCell, Array.size_modify]
  exact hg.size
 ·
  exact (ho k fun e => hn (.inr (.inr (.inl ⟨f, by rw [e]; exact hf⟩)))).trans (keep k hk fun e => hn (.inr (.inr (.inr (.inl ⟨b, f, hf, e.symm⟩)))))
 ·
  rcases hk with hk | hk | ⟨g, hk⟩ | ⟨c, g, hc, hk⟩ | hk
  ·
   exact .inl (.inl hk)
  ·
   exact .inl (.inr (.inl hk))
  ·
   rcases fl k g hk with ⟨rfl, rfl⟩ | ⟨_, hk⟩
   ·
    exact .inl (.inr (.inr (.inl ⟨f, hf⟩)))
   ·
    exact .inl (.inr (.inr (.inl ⟨g, hk⟩)))
  ·
   rcases fl c g hc with ⟨rfl, rfl⟩ | ⟨_, hc⟩
   ·
    rcases vb k hk with h1 | h1
    ·
     exact .inl (.inr (.inr (.inr (.inl ⟨c, f, hf, h1⟩))))
    ·
     exact .inr h1
   ·
    exact .inl (.inr (.inr (.inr (.inl ⟨c, g, hc, hk⟩))))
  ·
   exact .inl (.inr (.inr (.inr (.inr hk))))
theorem DK.grow {B d b : Nat} {S : Dsk} {f : Fil} {v : Value} {ps : List Nat} {w w' : World} (h : DK B d S w) (hf : S.fl b = some f) (hps : ∀ z ∈ ps, z < 256) (hrow : Own w' B v (f.zs ++ ps)) (hg : w.grownBy w' f.row.ownBlock) (hv : v.ownBlock = f.row.ownBlock ∨ v.ownBlock = some w.heap.size) :
  (w'.cell? ⟨b, 1, none⟩ = some f.row ∧ w'.frozen? ⟨b, 1, none⟩ = false) ∧ DK B d (S.grow b f v ps) (w'.setCell ⟨b, 1, none⟩ v) ∧ Mov S d (S.grow b f v ps) w (w'.setCell ⟨b, 1, none⟩ v) :=
 h.rowSet hf (fun z hz => by
  rcases List.mem_append.1 hz with hz | hz
  ·
   exact (h.rest.hf b f hf).2.2.2 z hz
  ·
   exact hps z hz) hrow hg hv
theorem wpList_growF {w : World} {ops : Array Oper} {rest : List Oper} {o : Oper} {a : Act} {Q : Exit → Act → World → Prop} (hgd : o.guard = none) (s x : Operand)
  (ho : o.op = .call { callee := .builtin .append, args := #[s, x], argTypes := #[38, 38] })
  (B d b : Nat) (S : Dsk) (f : Fil) (h : DK B d S w) (hf : S.fl b = some f) (hs : a.eval s = f.row) (pa : Option Addr) (n c : Nat) (ps : List Nat) (hx : a.eval x = .slice pa n c) (hr : RdN S d w pa n c ps) (hlen : f.zs.length + n ≤ 1000000000000)
  (k : ∀ va vn vc w', w'.cell? ⟨b, 1, none⟩ = some f.row → w'.frozen? ⟨b, 1, none⟩ = false → DK B d (S.grow b f (.slice va vn vc) ps) (w'.setCell ⟨b, 1, none⟩ (.slice va vn vc)) → Mov S d (S.grow b f (.slice va vn vc) ps) w (w'.setCell ⟨b, 1, none⟩ (.slice va vn vc)) → wpList Tryz.prog ops Q rest (a.put o.dst (.slice va vn vc)) w') :
  wpList Tryz.prog ops Q (o :: rest) a w := by
 obtain ⟨i0, hi, hz0, hz1, hz2⟩ := info_parts byteInfo
 obtain ⟨hfB, hfh, hfr, hfz⟩ := h.rest.hf b f hf
 obtain ⟨⟨hl, hz, hc⟩, hno, hnil⟩ := hr
 have fin : ∀ v' w', Own w' B v' (f.zs ++ ps) → w.grownBy w' f.row.ownBlock → (v'.ownBlock = f.row.ownBlock ∨ v'.ownBlock = some w.heap.size) → wpList Tryz.prog ops Q rest (a.put o.dst v') w' := fun v' w' h1 h2 h4 => by
  obtain ⟨g1, g2, g3⟩ := h.grow hf hz h1 h2 h4
  rcases h1.2 with ⟨rfl, _⟩ | ⟨g, cap, cur, rfl, _⟩
  ·
   exact k _ _ _ w' g1.1 g1.2 g2 g3
  ·
   exact k _ _ _ w' g1.1 g1.2 g2 g3
 cases pa with
 | none =>
  obtain rfl := hnil rfl
  have h0 : n = 0 := by
   rcases hc with h0 | ⟨b, off, hb, _⟩
   ·
    exact h0
   ·
    cases hb
  subst h0
  obtain rfl : ps = [] := List.eq_nil_of_length_eq_zero hl
  refine wpList_append_own_none hgd s x 38 ho B 5 i0 1 Tryz.underlying38 hi f.row f.zs.length (cellsOf f.zs) hs hfr hx ?_
  exact fin f.row w (by rw [List.append_nil]; exact hfr) ⟨rfl, rfl, rfl, Nat.le_refl _, fun _ _ _ => rfl⟩ (.inl rfl)
 | some ad =>
  refine wpList_append_own_at _ hgd s x 38 ho B 5 i0 (.int .u8 0) 1 1 Tryz.underlying38 hi hz0 hz1 hz2 rfl (by decide) f.row f.zs.length (cellsOf f.zs) hs hfr ad n c (cellsOf ps) hx (by rw [cellsOf_length, hl, Nat.mul_one]) ?_ (cellsOf_one _) (by unfold maxLen; omega) (by omega) (by have h1 := h.base; have h2 := h.lt; omega) ?_
  ·
   intro j u hj
   have hjl : j < ps.length := by
    have := (List.getElem?_eq_some_iff.1 hj).1
    rwa [cellsOf_length] at this
   rw [cellsOf_get ps j hjl] at hj
   cases hj
   rcases hc with h0 | ⟨b, off, hb, _, hcell⟩
   ·
    omega
   ·
    cases hb
    have hcj := hcell j (by omega)
    rw [show Addr.add ⟨b, off, none⟩ j = ⟨b, off + j, none⟩ by simp [Addr.add]]
    exact hcj
  ·
   intro v' w' h1 h2 _ h4
   refine fin v' w' ?_ h2 h4
   unfold Own
   rw [List.length_append, cellsOf_append, hl]
   exact h1
set_option maxRecDepth 100000 in
set_option maxHeartbeats 8000000 in
theorem dappend_no {B d : Nat} {S : Dsk} {w : World} (h : DK B d S w) (s : ByteArray) (hs : s.size ≤ maxLen) (pa : Option Addr) (n c : Nat) (hn : (S.find s).2 ≠ 0) : Calls Tryz.prog 44 #[.pointer (some ⟨d, 0, none⟩), .string s, .slice pa n c] w fun e w' => e = .returned (.int .i64 (S.find s).2) ∧ w' = w := by
 have HF := Lib.hid (dfind_c h s hs)
 have hn' : ((S.find s).2 == 0) = false := beq_eq_false_iff_ne.2 hn
 clear h
 obtain ⟨x, hx⟩ : ∃ x, x = (S.find s).2 := ⟨_, rfl⟩
 obtain ⟨y, hy⟩ : ∃ y, y = ptrOf (S.find s).1 := ⟨_, rfl⟩
 rw [← hx] at HF hn hn' ⊢
 rw [← hy] at HF
 clear hx
 have hy' : ∃ z, y = .pointer z := ⟨_, hy⟩
 obtain ⟨z, rfl⟩ := hy'
 clear hy
 go_enter Tryz.func44, Tryz.ntmps44
 go_wp2_with fail
 refine HF.out.mono ?_
 rintro e1 w1 ⟨rfl, rfl⟩
 go_wp2_with fail
 go_ret
 exact ⟨rfl, rfl⟩
set_option maxRecDepth 100000 in
set_option maxHeartbeats 8000000 in
theorem dappend_long {B d : Nat} {S : Dsk} {w : World} (h : DK B d S w) (s : ByteArray) (hs : s.size ≤ maxLen) (pa : Option Addr) (n c : Nat) (hd : S.down = false) {b : Nat} (ha : S.at s = some b) (hl : 1048576 < n) : Calls Tryz.prog 44 #[.pointer (some ⟨d, 0, none⟩), .string s, .slice pa n c] w fun e w' => e = .returned (.int .i64 8) ∧ w' = w := by
 have HF := Lib.hid (dfind_c h s hs)
 rw [show S.find s = (some b, 0) from by unfold Dsk.find; rw [hd, ha]; rfl] at HF
 simp only [ptrOf, Option.map_some] at HF
 have i1 : (1048576 : Int) < (n : Int) := by omega
 clear h
 go_enter Tryz.func44, Tryz.ntmps44
 go_wp2_with fail
 refine HF.out.mono ?_
 rintro e1 w1 ⟨rfl, rfl⟩
 go_wp2_with fail
 go_ret
 exact ⟨rfl, rfl⟩
set_option maxRecDepth 100000 in
set_option maxHeartbeats 8000000 in
theorem dappend_full {B d : Nat} {S : Dsk} {w : World} (h : DK B d S w) (s : ByteArray) (hs : s.size ≤ maxLen) (pa : Option Addr) (n c : Nat) (hd : S.down = false) {b : Nat} (ha : S.at s = some b) (hl : n ≤ 1048576) (hc : wrap64 (S.room - S.used) < (n : Int)) : Calls Tryz.prog 44 #[.pointer (some ⟨d, 0, none⟩), .string s, .slice pa n c] w fun e w' => e = .returned (.int .i64 4) ∧ Below w.heap.size w w' := by
 have HF := Lib.hid (dfind_c h s hs)
 rw [show S.find s = (some b, 0) from by unfold Dsk.find; rw [hd, ha]; rfl] at HF
 simp only [ptrOf, Option.map_some] at HF
 have i1 : ¬ (1048576 : Int) < (n : Int) := by omega
 have hfit : decide (wrap64 (S.room - S.used) < (n : Int)) = true := decide_eq_true hc
 clear hc
 go_enter Tryz.func44, Tryz.ntmps44
 go_wp2_with fail
 refine HF.out.mono ?_
 rintro e1 w1 ⟨rfl, rfl⟩
 go_wp2_with fail
 (try dsimp only [Act.put, sT, sZ, sS])
 have HS := Lib.hid (show World.cell? _ ⟨d, 0, none⟩ = some (.int .i64 S.room) ∧ World.cell? _ ⟨d, 2, none⟩ = some (.int .i64 S.used) from ⟨(h.below (Below.refl _ _).drew).cells.1, (h.below (Below.refl _ _).drew).cells.2.2.1⟩)
 have HL0 := Lib.hid (fun W (hW : World.cell? W ⟨d, 0, none⟩ = some (.int .i64 S.room) ∧ World.cell? W ⟨d, 2, none⟩ = some (.int .i64 S.used)) => run_cell_i W ⟨d, 0, none⟩ _ hW.1)
 have HL2 := Lib.hid (fun W (hW : World.cell? W ⟨d, 0, none⟩ = some (.int .i64 S.room) ∧ World.cell? W ⟨d, 2, none⟩ = some (.int .i64 S.used)) => run_cell_i W ⟨d, 2, none⟩ _ hW.2)
 refine anyH_begin (S := fun W => W.cell? ⟨d, 0, none⟩ = some (.int .i64 S.room) ∧ W.cell? ⟨d, 2, none⟩ = some (.int .i64 S.used)) (by kernel_rfl) ?_
 refine aP 0 (d := 25) (op := .move (.tmp 2)) (.slice pa n c) HS.out ?_
 simp only [Act.put, sT, sZ, sS]
 refine aP 1 (d := 26) (op := .call { callee := .builtin .len, args := #[(.tmp 25)], argTypes := #[38] }) (.int .i64 (n : Int)) HS.out ?_
 simp only [Act.put, sT, sZ, sS]
 refine aP 2 (d := 27) (op := .move (.tmp 0)) (.pointer (some ⟨d, 0, none⟩)) HS.out ?_
 simp only [Act.put, sT, sZ, sS]
 refine aP 3 (d := 28) (op := .nilCheck (.tmp 27)) (.pointer (some ⟨d, 0, none⟩)) HS.out ?_
 simp only [Act.put, sT, sZ, sS]
 refine aP 4 (d := 29) (op := .fieldAddr 80 (.tmp 28) 0) (.pointer (some ⟨d, 0, none⟩)) HS.out ?_
 simp only [Act.put, sT, sZ, sS]
 refine aL 5 (d := 30) (ty := 3) (x := (.tmp 29)) (p := .pointer (some ⟨d, 0, none⟩)) (.int .i64 S.room) HL0.out HS.out ?_
 simp only [Act.put, sT, sZ, sS]
 refine aP 6 (d := 31) (op := .move (.tmp 0)) (.pointer (some ⟨d, 0, none⟩)) HS.out ?_
 simp only [Act.put, sT, sZ, sS]
 refine aP 7 (d := 32) (op := .nilCheck (.tmp 31)) (.pointer (some ⟨d, 0, none⟩)) HS.out ?_
 simp only [Act.put, sT, sZ, sS]
 refine aP 8 (d := 33) (op := .fieldAddr 80 (.tmp 32) 2) (.pointer (some ⟨d, 2, none⟩)) HS.out ?_
 simp only [Act.put, sT, sZ, sS]
 refine aL 9 (d := 34) (ty := 3) (x := (.tmp 33)) (p := .pointer (some ⟨d, 2, none⟩)) (.int .i64 S.used) HL2.out HS.out ?_
 simp only [Act.put, sT, sZ, sS]
 refine anyH_pureG 10 (d := 35) (op := .binOp .sub 3 (.tmp 30) (.tmp 34) 3) (gd := none) (.int .i64 (wrap64 (S.room - S.used))) (by rfl) wantedP (by kernel_rfl) (by kernel_rfl) (by kernel_rfl) (fun _ _ _ h => h) (fun o ho W hW => by unfold execOp; simp only [ho]; go_simp; rw [IntKind.wrap_i64]; unfold wrap64; rfl) HS.out ?_
 simp only [Act.put, sT, sZ, sS]
 refine anyH_pureG 11 (d := 36) (op := .binOp .gtr 3 (.tmp 26) (.tmp 35) 3) (gd := none) (.bool true) (by rfl) wantedP (by kernel_rfl) (by kernel_rfl) (by kernel_rfl) (fun _ _ _ h => h) (fun o ho W hW => by unfold execOp; simp only [ho]; go_simp; try exact hfit) HS.out ?_
 simp only [Act.put, sT, sZ, sS]
 refine aP 12 (d := 24) (op := .assign (.tmp 36)) (.bool true) HS.out ?_
 simp only [Act.put, sT, sZ, sS]
 refine wpAnyH_done (by kernel_rfl) ?_ _
 clear HS HL0 HL2 hfit
 go_wp2_with fail
 go_ret
 exact ⟨rfl, (Below.refl _ _).drew⟩
theorem wp_pushC {w : World} {op : Oper} {a : Act} {K : Act → World → Prop} {Q : Exit → Act → World → Prop} (s x : Operand)
  (ho : op.op = .call { callee := .builtin .append, args := #[s, x], argTypes := #[78, 78] })
  (B d : Nat) (S : Dsk) (c : Chg) (h : DK B d S w) (hs : a.eval s = S.lv) (hx : a.eval x = .slice (some ⟨w.heap.size, 0, none⟩) 1 1) (hlen : S.loose.length + 1 ≤ 1000000000)
  (hc : (∃ f, S.fl c.file = some f) ∧ ∀ b, c.repl = some b → ∃ f, S.fl b = some f)
  (k : ∀ va vn vc w', w'.cell? ⟨d, 3, none⟩ = some S.lv → w'.frozen? ⟨d, 3, none⟩ = false → DK B d (S.more (.slice va vn vc) c) (w'.setCell ⟨d, 3, none⟩ (.slice va vn vc)) → Mov S d (S.more (.slice va vn vc) c) w (w'.setCell ⟨d, 3, none⟩ (.slice va vn vc)) → K (a.put op.dst (.slice va vn vc)) w') :
  op.wp Tryz.prog a (w.alloc (.cells c.cells.toArray 145)) K Q := by
 obtain ⟨i0, hi, hz0, hz1, hz2⟩ := info_parts info_chg
 have ha := h.alloc (.cells c.cells.toArray 145)
 obtain ⟨v', w', hr, h1, h2, _, h4⟩ := run_append_own_at (P := Tryz.prog) (w.alloc (.cells c.cells.toArray 145)) B 78 op.type 145 i0 _ 5 48 Tryz.underlying78 hi hz0 hz1 hz2 rfl (by decide) S.lv S.loose.length _ ha.rest.hl ⟨w.heap.size, 0, none⟩ 1 1 c.cells rfl (fun j u hj => by
   rw [Addr.add_mid, Nat.zero_add, cell_of_row _ _ _ _ _ _ (heap_alloc_new w _)]
   simpa using hj) c.one (by unfold maxLen; omega) (by omega) (by have h1 := h.base; have h2 := h.lt; simp; omega)
 obtain ⟨g1, g2, g3⟩ := ha.push h1 h2 (by
  rcases h4 with h4 | h4
  ·
   exact .inl h4
  ·
   exact .inr ⟨_, h4, Nat.le_refl _⟩) hc
 have hm : Mov S d (S.more v' c) w (w'.setCell ⟨d, 3, none⟩ v') := (Mov.ofBelow ((Below.refl _ _).alloc (Nat.le_refl _) _)).trans g3
 rcases h1.2 with ⟨rfl, h0⟩ | ⟨g, cap, cur, rfl, _⟩
 ·
  omega
 ·
  unfold Oper.wp execOp
  simp only [ho, resolve, invoke, builtin, Sem.run_bind, Sem.run_pure, Result.andThen_ok, List.map_toArray, List.map_cons, List.map_nil, hs, hx, hr]
  exact k _ _ _ w' g1.1 g1.2 g2 hm
theorem wp_bsC {w : World} {op : Oper} {a : Act} {K : Act → World → Prop} {Q : Exit → Act → World → Prop} (x : Operand) (ho : op.op = .buildSlice 78 1 #[(0, x)]) (k1 : Int) (b : Nat) (n : Int) (hx : a.eval x = .agg #[.int .i64 k1, .pointer (some ⟨b, 0, none⟩), .int .i64 n, .string ⟨#[]⟩, .pointer none])
  (k : K (a.put op.dst (.slice (some ⟨w.heap.size, 0, none⟩) 1 1)) (w.alloc (.cells #[.int .i64 k1, .pointer (some ⟨b, 0, none⟩), .int .i64 n, .string ⟨#[]⟩, .pointer none] 145))) : op.wp Tryz.prog a w K Q := by
 unfold Oper.wp execOp
 simp only [ho, List.map_toArray, List.map_cons, List.map_nil, hx]
 go_simp
 exact k
/-- what Append leaves where nothing refuses it -/
def Dsk.laid (S : Dsk) (b : Nat) (f : Fil) (v v' : Value) (ps : List Nat) : Dsk := { ((S.more v ⟨1, b, (f.zs.length : Int), ⟨#[]⟩, none⟩).grow b f v' ps) with used := wrap64 (S.used + (ps.length : Int)) }
set_option maxRecDepth 100000 in
set_option maxHeartbeats 8000000 in
theorem dappend_ok {B d : Nat} {S : Dsk} {w : World} (h : DK B d S w) (s : ByteArray) (hs : s.size ≤ maxLen) (pa : Option Addr) (n c : Nat) (ps : List Nat) (hd : S.down = false) {b : Nat} {f : Fil} (ha : S.at s = some b) (hfl : S.fl b = some f) (hl : n ≤ 1048576) (hc : ¬ wrap64 (S.room - S.used) < (n : Int)) (hf : S.fuse ≠ 0) (hlo : S.loose.length < 1000000000) (hfz : f.zs.length ≤ 100000000000) (hr : RdN S d w pa n c ps) :
  Calls Tryz.prog 44 #[.pointer (some ⟨d, 0, none⟩), .string s, .slice pa n c] w fun e w' => e = .returned (.int .i64 0) ∧ ∃ v v', DK B d (S.step.1.laid b f v v' ps) w' ∧ Mov S d (S.step.1.laid b f v v' ps) w w' := by
 have HF := Lib.hid (dfind_c h s hs)
 rw [show S.find s = (some b, 0) from by unfold Dsk.find; rw [hd, ha]; rfl] at HF
 simp only [ptrOf, Option.map_some] at HF
 have i1 : ¬ (1048576 : Int) < (n : Int) := by omega
 have hfit : decide (wrap64 (S.room - S.used) < (n : Int)) = false := decide_eq_false hc
 clear hc
 obtain ⟨ra, rc, hrow, -, -, -⟩ := ((h.rest.hf b f hfl).2.2.1).rd (h.rest.hf b f hfl).2.2.2
 have HROW := Lib.hid hrow
 have hne : b ≠ d := h.ne (.inr (.inl ⟨f, hfl⟩))
 have hst : S.step.2 = 0 ∧ S.step.1.fl = S.fl ∧ S.step.1.loose = S.loose ∧ S.step.1.lv = S.lv ∧ S.step.1.used = S.used := by
  unfold Dsk.step
  rw [if_neg hf]
  split <;> exact ⟨rfl, rfl, rfl, rfl, rfl⟩
 have HST := Lib.hid (dstep_c (h.below (Below.refl _ _).drew))
 rw [hst.1] at HST
 obtain ⟨la, ln, lc, hlv⟩ : ∃ la ln lc, S.lv = .slice la ln lc := by
  rcases h.rest.hl.2 with ⟨h1, _⟩ | ⟨g, cap, cur, h1, _⟩
  ·
   exact ⟨_, _, _, h1⟩
  ·
   exact ⟨_, _, _, h1⟩
 have HE := Lib.hid hst.2
 have HNE := Lib.hid hne
 have hk0 := h
 have HRD := Lib.hid hr
 have hlen : (ps.length : Int) = (n : Int) := by rw [hr.rd.1]
 have HPL := Lib.hid hlen
 have HFZ := Lib.hid hfz
 clear hrow hst hne hr hlen hk0 hfz
 go_enter Tryz.func44, Tryz.ntmps44
 go_wp2_with fail
 refine HF.out.mono ?_
 rintro e1 w1 ⟨rfl, rfl⟩
 go_wp2_with fail
 (try dsimp only [Act.put, sT, sZ, sS])
 have HS := Lib.hid (show World.cell? _ ⟨d, 0, none⟩ = some (.int .i64 S.room) ∧ World.cell? _ ⟨d, 2, none⟩ = some (.int .i64 S.used) from ⟨(h.below (Below.refl _ _).drew).cells.1, (h.below (Below.refl _ _).drew).cells.2.2.1⟩)
 have HL0 := Lib.hid (fun W (hW : World.cell? W ⟨d, 0, none⟩ = some (.int .i64 S.room) ∧ World.cell? W ⟨d, 2, none⟩ = some (.int .i64 S.used)) => run_cell_i W ⟨d, 0, none⟩ _ hW.1)
 have HL2 := Lib.hid (fun W (hW : World.cell? W ⟨d, 0, none⟩ = some (.int .i64 S.room) ∧ World.cell? W ⟨d, 2, none⟩ = some (.int .i64 S.used)) => run_cell_i W ⟨d, 2, none⟩ _ hW.2)
 refine anyH_begin (S := fun W => W.cell? ⟨d, 0, none⟩ = some (.int .i64 S.room) ∧ W.cell? ⟨d, 2, none⟩ = some (.int .i64 S.used)) (by kernel_rfl) ?_
 refine aP 0 (d := 25) (op := .move (.tmp 2)) (.slice pa n c) HS.out ?_
 simp only [Act.put, sT, sZ, sS]
 refine aP 1 (d := 26) (op := .call { callee := .builtin .len, args := #[(.tmp 25)], argTypes := #[38] }) (.int .i64 (n : Int)) HS.out ?_
 simp only [Act.put, sT, sZ, sS]
 refine aP 2 (d := 27) (op := .move (.tmp 0)) (.pointer (some ⟨d, 0, none⟩)) HS.out ?_
 simp only [Act.put, sT, sZ, sS]
 refine aP 3 (d := 28) (op := .nilCheck (.tmp 27)) (.pointer (some ⟨d, 0, none⟩)) HS.out ?_
 simp only [Act.put, sT, sZ, sS]
 refine aP 4 (d := 29) (op := .fieldAddr 80 (.tmp 28) 0) (.pointer (some ⟨d, 0, none⟩)) HS.out ?_
 simp only [Act.put, sT, sZ, sS]
 refine aL 5 (d := 30) (ty := 3) (x := (.tmp 29)) (p := .pointer (some ⟨d, 0, none⟩)) (.int .i64 S.room) HL0.out HS.out ?_
 simp only [Act.put, sT, sZ, sS]
 refine aP 6 (d := 31) (op := .move (.tmp 0)) (.pointer (some ⟨d, 0, none⟩)) HS.out ?_
 simp only [Act.put, sT, sZ, sS]
 refine aP 7 (d := 32) (op := .nilCheck (.tmp 31)) (.pointer (some ⟨d, 0, none⟩)) HS.out ?_
 simp only [Act.put, sT, sZ, sS]
 refine aP 8 (d := 33) (op := .fieldAddr 80 (.tmp 32) 2) (.pointer (some ⟨d, 2, none⟩)) HS.out ?_
 simp only [Act.put, sT, sZ, sS]
 refine aL 9 (d := 34) (ty := 3) (x := (.tmp 33)) (p := .pointer (some ⟨d, 2, none⟩)) (.int .i64 S.used) HL2.out HS.out ?_
 simp only [Act.put, sT, sZ, sS]
 refine anyH_pureG 10 (d := 35) (op := .binOp .sub 3 (.tmp 30) (.tmp 34) 3) (gd := none) (.int .i64 (wrap64 (S.room - S.used))) (by rfl) wantedP (by kernel_rfl) (by kernel_rfl) (by kernel_rfl) (fun _ _ _ h => h) (fun o ho W hW => by unfold execOp; simp only [ho]; go_simp; rw [IntKind.wrap_i64]; unfold wrap64; rfl) HS.out ?_
 simp only [Act.put, sT, sZ, sS]
 refine anyH_pureG 11 (d := 36) (op := .binOp .gtr 3 (.tmp 26) (.tmp 35) 3) (gd := none) (.bool false) (by rfl) wantedP (by kernel_rfl) (by kernel_rfl) (by kernel_rfl) (fun _ _ _ h => h) (fun o ho W hW => by unfold execOp; simp only [ho]; go_simp; try exact hfit) HS.out ?_
 simp only [Act.put, sT, sZ, sS]
 refine aP 12 (d := 24) (op := .assign (.tmp 36)) (.bool false) HS.out ?_
 simp only [Act.put, sT, sZ, sS]
 refine wpAnyH_done (by kernel_rfl) ?_ _
 clear HS HL0 HL2 hfit
 go_wp2_with fail
 refine HST.out.mono ?_
 rintro e3 w3 ⟨rfl, hk3, hm3⟩
 have HM3 := Lib.hid ((Mov.ofBelow (Below.refl _ _).drew).trans hm3)
 have HRN := Lib.hid HRD.out
 have HRN3 := Lib.hid (HRD.out.mov HM3.out)
 have HK3 := Lib.hid hk3
 clear h hk3 hm3 HST HF HRD
 go_wp2_with fail
 obtain ⟨S1, hS1⟩ : ∃ S1, S1 = S.step.1 := ⟨_, rfl⟩
 rw [← hS1] at HK3 HM3 HRN3 HE
 have HS1 := Lib.hid hS1
 have HLV := Lib.hid (show S1.lv = .slice la ln lc from HE.out.2.2.1.trans hlv)
 have HFL := Lib.hid (show S1.fl b = some f from by rw [HE.out.1]; exact hfl)
 have HLL := Lib.hid (show S1.loose.length + 1 ≤ 1000000000 from by rw [HE.out.2.1]; omega)
 have HC := Lib.hid (show (∃ g, S1.fl b = some g) ∧ ∀ b', (none : Option Nat) = some b' → ∃ g, S1.fl b' = some g from ⟨⟨f, HFL.out⟩, fun b' hb => by cases hb⟩)
 clear hS1 hlv hfl ha hlo HE
 (try dsimp only [Act.put, sT, sZ, sS])
 have HK3 := Lib.hid (HK3.out.below (Below.refl _ _).drew)
 have HM3 := Lib.hid (HM3.out.trans (Mov.ofBelow (S := S1) (d := d) (Below.refl _ _).drew))
 obtain ⟨w4, hw4⟩ : ∃ w4, w4 = w3.drew := ⟨_, rfl⟩
 have HS := Lib.hid (show World.cell? w4 ⟨b, 1, none⟩ = some (.slice ra f.zs.length rc) from by rw [hw4]; exact (HK3.out.rest.fcells HFL.out).2.trans (congrArg some HROW.out))
 have HL1 := Lib.hid (fun W (hW : World.cell? W ⟨b, 1, none⟩ = some (.slice ra f.zs.length rc)) => run_cell_b W ⟨b, 1, none⟩ ra f.zs.length rc hW)
 refine anyH_begin (S := fun W => World.cell? W ⟨b, 1, none⟩ = some (.slice ra f.zs.length rc)) (by kernel_rfl) ?_
 rw [← hw4] at HK3 HM3 ⊢
 clear hw4 HRN3
 refine aP 0 (d := 42) (op := .move (.tmp 0)) (.pointer (some ⟨d, 0, none⟩)) HS.out ?_
 simp only [Act.put, sT, sZ, sS]
 refine aP 1 (d := 43) (op := .move (.tmp 0)) (.pointer (some ⟨d, 0, none⟩)) HS.out ?_
 simp only [Act.put, sT, sZ, sS]
 refine aP 2 (d := 44) (op := .nilCheck (.tmp 43)) (.pointer (some ⟨d, 0, none⟩)) HS.out ?_
 simp only [Act.put, sT, sZ, sS]
 refine aP 3 (d := 45) (op := .fieldAddr 80 (.tmp 44) 3) (.pointer (some ⟨d, 3, none⟩)) HS.out ?_
 simp only [Act.put, sT, sZ, sS]
 refine aP 5 (d := 47) (op := .move (.tmp 7)) (.pointer (some ⟨b, 0, none⟩)) HS.out ?_
 simp only [Act.put, sT, sZ, sS]
 refine aP 6 (d := 48) (op := .move (.tmp 7)) (.pointer (some ⟨b, 0, none⟩)) HS.out ?_
 simp only [Act.put, sT, sZ, sS]
 refine aP 7 (d := 49) (op := .nilCheck (.tmp 48)) (.pointer (some ⟨b, 0, none⟩)) HS.out ?_
 simp only [Act.put, sT, sZ, sS]
 refine aP 8 (d := 50) (op := .fieldAddr 159 (.tmp 49) 1) (.pointer (some ⟨b, 1, none⟩)) HS.out ?_
 simp only [Act.put, sT, sZ, sS]
 refine aL 9 (d := 51) (ty := 38) (x := (.tmp 50)) (p := .pointer (some ⟨b, 1, none⟩)) (.slice ra f.zs.length rc) HL1.out HS.out ?_
 simp only [Act.put, sT, sZ, sS]
 refine aP 10 (d := 52) (op := .call { callee := .builtin .len, args := #[(.tmp 51)], argTypes := #[38] }) (.int .i64 (f.zs.length : Int)) HS.out ?_
 simp only [Act.put, sT, sZ, sS]
 refine aP 11 (d := 53) (op := .build 145 #[(0, (.const (.int .i64 1))), (1, (.tmp 47)), (2, (.tmp 52))]) (.agg #[.int .i64 1, .pointer (some ⟨b, 0, none⟩), .int .i64 (f.zs.length : Int), .string ⟨#[]⟩, .pointer none]) HS.out ?_
 simp only [Act.put, sT, sZ, sS]
 refine wpAnyH_all (rs := [4, 12]) (by kernel_rfl) (by simp) ?_
 intro k hk
 simp only [List.mem_cons, List.not_mem_nil, or_false] at hk
 rcases hk with rfl | rfl
 ·
  refine op_atJ 4 (d := some 46) (op := .load 78 (.tmp 45)) (by rfl) ?_
  intro o4 hod4 hoo4
  refine wp_load_g 78 (.tmp 45) hoo4 (.pointer (some ⟨d, 3, none⟩)) (.slice la ln lc) (by rfl) (run_cell_chgs _ ⟨d, 3, none⟩ _ _ _ (HK3.out.cells.2.2.2.1.trans (congrArg some HLV.out))) ?_
  rw [hod4]
  clear hod4 hoo4
  simp only [Act.put, sT, sZ, sS]
  refine ⟨HS.out, ?_⟩
  refine wpAnyH_all (rs := [12]) (by kernel_rfl) (by simp) ?_
  intro k hk; simp only [List.mem_cons, List.not_mem_nil, or_false] at hk; subst hk
  refine op_atJ 12 (d := some 54) (op := .buildSlice 78 1 #[(0, (.tmp 53))]) (by rfl) ?_
  intro o5 hod5 hoo5
  refine wp_bsC (.tmp 53) hoo5 1 b (f.zs.length : Int) (by rfl) ?_
  rw [hod5]
  clear hod5 hoo5
  simp only [Act.put, sT, sZ, sS]
  refine ⟨(((HK3.out.alloc (.cells #[.int .i64 1, .pointer (some ⟨b, 0, none⟩), .int .i64 (f.zs.length : Int), .string ⟨#[]⟩, .pointer none] 145)).rest.fcells HFL.out).2.trans (congrArg some HROW.out)), ?_⟩
  clear HS
  refine wpAnyH_all (rs := [13]) (by kernel_rfl) (by simp) ?_
  intro k hk; simp only [List.mem_cons, List.not_mem_nil, or_false] at hk; subst hk
  refine op_atJ 13 (d := some 55) (op := .call { callee := .builtin .append, args := #[(.tmp 46), (.tmp 54)], argTypes := #[78, 78] }) (by rfl) ?_
  intro o6 hod6 hoo6
  refine wp_pushC (.tmp 46) (.tmp 54) hoo6 B d S1 ⟨1, b, (f.zs.length : Int), ⟨#[]⟩, none⟩ HK3.out HLV.out.symm (by rfl) HLL.out HC.out ?_
  intro va vn vc w7 c7 f7 hk7 hm7
  have HK7 := Lib.hid hk7
  have HM7 := Lib.hid (HM3.out.trans hm7)
  have HT7 := Lib.hid (show w7.there d 3 1 from fun j hj => by
   obtain rfl : j = 0 := by omega
   exact ⟨by rw [Nat.add_zero, c7]; rfl, f7⟩)
  have HS := Lib.hid (show World.cell? w7 ⟨b, 1, none⟩ = some (.slice ra f.zs.length rc) from by
   have h1 := (HK7.out.rest.fcells (b := b) (f := f) HFL.out).2.trans (congrArg some HROW.out)
   rw [World.cell?_setCell_other _ _ _ _ (by intro e; cases e)] at h1
   exact h1)
  rw [hod6]
  clear hod6 hoo6 hk7 hm7 c7 f7
  simp only [Act.put, sT, sZ, sS]
  refine ⟨HS.out, ?_⟩
  refine aP 14 (d := 56) (op := .nilCheck (.tmp 42)) (.pointer (some ⟨d, 0, none⟩)) HS.out ?_
  simp only [Act.put, sT, sZ, sS]
  refine aP 15 (d := 57) (op := .fieldAddr 80 (.tmp 56) 3) (.pointer (some ⟨d, 3, none⟩)) HS.out ?_
  simp only [Act.put, sT, sZ, sS]
  refine wpAnyH_all (rs := [16]) (by kernel_rfl) (by simp) ?_
  intro k hk; simp only [List.mem_cons, List.not_mem_nil, or_false] at hk; subst hk
  refine op_atJ 16 (d := none) (op := .store 78 (.tmp 57) (.tmp 55)) (by rfl) ?_
  intro o7 hod7 hoo7
  refine wp_store_one 78 (.tmp 57) (.tmp 55) hoo7 d 3 (.slice va vn vc) (by rfl) (by rfl) HT7.out (by kernel_rfl) (by rfl) (by rfl) ?_
  rw [hod7]
  clear hod7 hoo7
  simp only [Act.put, sT, sZ, sS]
  refine ⟨(HK7.out.rest.fcells (b := b) (f := f) HFL.out).2.trans (congrArg some HROW.out), ?_⟩
  refine wpAnyH_done (by kernel_rfl) ?_ _
  clear HS HT7 HL1
  obtain ⟨S7, hS7⟩ : ∃ S7, S7 = S1.more (.slice va vn vc) ⟨1, b, (f.zs.length : Int), ⟨#[]⟩, none⟩ := ⟨_, rfl⟩
  have HF7 := Lib.hid (show S7.fl b = some f from by rw [hS7]; exact HFL.out)
  have HN7 := Lib.hid (HRN.out.mov HM7.out)
  rw [← hS7] at HK7 HM7 HN7
  have HE7 := Lib.hid hS7
  obtain ⟨w8, hw8⟩ : ∃ w8, w8 = w7.setCells d 3 [.slice va vn vc] := ⟨_, rfl⟩
  have HK8 := Lib.hid (show DK B d S7 w8 from by rw [hw8]; exact HK7.out)
  have HM8 := Lib.hid (show Mov S d S7 _ w8 from by rw [hw8]; exact HM7.out)
  have HN8 := Lib.hid (show RdN S7 d w8 pa n c ps from by rw [hw8]; exact HN7.out)
  rw [← hw8]
  have c1 := (HK8.out.rest.fcells HF7.out).2.trans (congrArg some HROW.out)
  clear hw8 hS7 HK7 HM7 HN7 HC
  go_wp2_with (at_builtin; refine wpList_growF rfl (.tmp 62) (.tmp 63) rfl B d b S7 f HK8.out HF7.out HROW.out.symm pa n c ps (by rfl) HN8.out (by have := HFZ.out; omega) ?_; intro va2 vn2 vc2 w9 c9 f9 hk9 hm9; have HK9 := Lib.hid hk9; have HM9 := Lib.hid (HM8.out.trans hm9); have c2 := hk9.cells.2.2.1; have f2 := frozen_of_row _ d 2 _ _ hk9.hd; clear hk9 hm9 c1)
  go_ret
  obtain ⟨h8, h9, _⟩ := HK9.out.cellSet 2 (.int .i64 (wrap64 (S7.used + (n : Int)))) { (S7.grow b f (.slice va2 vn2 vc2) ps) with used := wrap64 (S7.used + (n : Int)) } rfl (by omega) rfl ⟨rfl, rfl, rfl⟩
  have he : { (S7.grow b f (.slice va2 vn2 vc2) ps) with used := wrap64 (S7.used + (n : Int)) } = S.step.1.laid b f (.slice va vn vc) (.slice va2 vn2 vc2) ps := by
   rw [HE7.out, ← HPL.out, HS1.out]
   rfl
  rw [he] at h8 h9
  exact ⟨rfl, _, _, h8, HM9.out.trans h9⟩
 ·
  refine op_atJ 12 (d := some 54) (op := .buildSlice 78 1 #[(0, (.tmp 53))]) (by rfl) ?_
  intro o5 hod5 hoo5
  refine wp_bsC (.tmp 53) hoo5 1 b (f.zs.length : Int) (by rfl) ?_
  rw [hod5]
  clear hod5 hoo5
  simp only [Act.put, sT, sZ, sS]
  refine ⟨(((HK3.out.alloc (.cells #[.int .i64 1, .pointer (some ⟨b, 0, none⟩), .int .i64 (f.zs.length : Int), .string ⟨#[]⟩, .pointer none] 145)).rest.fcells HFL.out).2.trans (congrArg some HROW.out)), ?_⟩
  refine wpAnyH_all (rs := [4]) (by kernel_rfl) (by simp) ?_
  intro k hk; simp only [List.mem_cons, List.not_mem_nil, or_false] at hk; subst hk
  refine op_atJ 4 (d := some 46) (op := .load 78 (.tmp 45)) (by rfl) ?_
  intro o4 hod4 hoo4
  refine wp_load_g 78 (.tmp 45) hoo4 (.pointer (some ⟨d, 3, none⟩)) (.slice la ln lc) (by rfl) (run_cell_chgs _ ⟨d, 3, none⟩ _ _ _ ((HK3.out.alloc (.cells #[.int .i64 1, .pointer (some ⟨b, 0, none⟩), .int .i64 (f.zs.length : Int), .string ⟨#[]⟩, .pointer none] 145)).cells.2.2.2.1.trans (congrArg some HLV.out))) ?_
  rw [hod4]
  clear hod4 hoo4
  simp only [Act.put, sT, sZ, sS]
  refine ⟨(((HK3.out.alloc (.cells #[.int .i64 1, .pointer (some ⟨b, 0, none⟩), .int .i64 (f.zs.length : Int), .string ⟨#[]⟩, .pointer none] 145)).rest.fcells HFL.out).2.trans (congrArg some HROW.out)), ?_⟩
  clear HS
  refine wpAnyH_all (rs := [13]) (by kernel_rfl) (by simp) ?_
  intro k hk; simp only [List.mem_cons, List.not_mem_nil, or_false] at hk; subst hk
  refine op_atJ 13 (d := some 55) (op := .call { callee := .builtin .append, args := #[(.tmp 46), (.tmp 54)], argTypes := #[78, 78] }) (by rfl) ?_
  intro o6 hod6 hoo6
  refine wp_pushC (.tmp 46) (.tmp 54) hoo6 B d S1 ⟨1, b, (f.zs.length : Int), ⟨#[]⟩, none⟩ HK3.out HLV.out.symm (by rfl) HLL.out HC.out ?_
  intro va vn vc w7 c7 f7 hk7 hm7
  have HK7 := Lib.hid hk7
  have HM7 := Lib.hid (HM3.out.trans hm7)
  have HT7 := Lib.hid (show w7.there d 3 1 from fun j hj => by
   obtain rfl : j = 0 := by omega
   exact ⟨by rw [Nat.add_zero, c7]; rfl, f7⟩)
  have HS := Lib.hid (show World.cell? w7 ⟨b, 1, none⟩ = some (.slice ra f.zs.length rc) from by
   have h1 := (HK7.out.rest.fcells (b := b) (f := f) HFL.out).2.trans (congrArg some HROW.out)
   rw [World.cell?_setCell_other _ _ _ _ (by intro e; cases e)] at h1
   exact h1)
  rw [hod6]
  clear hod6 hoo6 hk7 hm7 c7 f7
  simp only [Act.put, sT, sZ, sS]
  refine ⟨HS.out, ?_⟩
  refine aP 14 (d := 56) (op := .nilCheck (.tmp 42)) (.pointer (some ⟨d, 0, none⟩)) HS.out ?_
  simp only [Act.put, sT, sZ, sS]
  refine aP 15 (d := 57) (op := .fieldAddr 80 (.tmp 56) 3) (.pointer (some ⟨d, 3, none⟩)) HS.out ?_
  simp only [Act.put, sT, sZ, sS]
  refine wpAnyH_all (rs := [16]) (by kernel_rfl) (by simp) ?_
  intro k hk; simp only [List.mem_cons, List.not_mem_nil, or_false] at hk; subst hk
  refine op_atJ 16 (d := none) (op := .store 78 (.tmp 57) (.tmp 55)) (by rfl) ?_
  intro o7 hod7 hoo7
  refine wp_store_one 78 (.tmp 57) (.tmp 55) hoo7 d 3 (.slice va vn vc) (by rfl) (by rfl) HT7.out (by kernel_rfl) (by rfl) (by rfl) ?_
  rw [hod7]
  clear hod7 hoo7
  simp only [Act.put, sT, sZ, sS]
  refine ⟨(HK7.out.rest.fcells (b := b) (f := f) HFL.out).2.trans (congrArg some HROW.out), ?_⟩
  refine wpAnyH_done (by kernel_rfl) ?_ _
  clear HS HT7 HL1
  obtain ⟨S7, hS7⟩ : ∃ S7, S7 = S1.more (.slice va vn vc) ⟨1, b, (f.zs.length : Int), ⟨#[]⟩, none⟩ := ⟨_, rfl⟩
  have HF7 := Lib.hid (show S7.fl b = some f from by rw [hS7]; exact HFL.out)
  have HN7 := Lib.hid (HRN.out.mov HM7.out)
  rw [← hS7] at HK7 HM7 HN7
  have HE7 := Lib.hid hS7
  obtain ⟨w8, hw8⟩ : ∃ w8, w8 = w7.setCells d 3 [.slice va vn vc] := ⟨_, rfl⟩
  have HK8 := Lib.hid (show DK B d S7 w8 from by rw [hw8]; exact HK7.out)
  have HM8 := Lib.hid (show Mov S d S7 _ w8 from by rw [hw8]; exact HM7.out)
  have HN8 := Lib.hid (show RdN S7 d w8 pa n c ps from by rw [hw8]; exact HN7.out)
  rw [← hw8]
  have c1 := (HK8.out.rest.fcells HF7.out).2.trans (congrArg some HROW.out)
  clear hw8 hS7 HK7 HM7 HN7 HC
  go_wp2_with (at_builtin; refine wpList_growF rfl (.tmp 62) (.tmp 63) rfl B d b S7 f HK8.out HF7.out HROW.out.symm pa n c ps (by rfl) HN8.out (by have := HFZ.out; omega) ?_; intro va2 vn2 vc2 w9 c9 f9 hk9 hm9; have HK9 := Lib.hid hk9; have HM9 := Lib.hid (HM8.out.trans hm9); have c2 := hk9.cells.2.2.1; have f2 := frozen_of_row _ d 2 _ _ hk9.hd; clear hk9 hm9 c1)
  go_ret
  obtain ⟨h8, h9, _⟩ := HK9.out.cellSet 2 (.int .i64 (wrap64 (S7.used + (n : Int)))) { (S7.grow b f (.slice va2 vn2 vc2) ps) with used := wrap64 (S7.used + (n : Int)) } rfl (by omega) rfl ⟨rfl, rfl, rfl⟩
  have he : { (S7.grow b f (.slice va2 vn2 vc2) ps) with used := wrap64 (S7.used + (n : Int)) } = S.step.1.laid b f (.slice va vn vc) (.slice va2 vn2 vc2) ps := by
   rw [HE7.out, ← HPL.out, HS1.out]
   rfl
  rw [he] at h8 h9
  exact ⟨rfl, _, _, h8, HM9.out.trans h9⟩
end Go.Proofs.YtihbgigledmliaaGreat

namespace Go.Proofs.YtihbgigledmliaaGreat
open Go.RowKit Go.Maps
set_option linter.unusedVariables false
theorem wrap64_id {x : Int} (h0 : -9223372036854775808 ≤ x) (h1 : x ≤ 9223372036854775807) : wrap64 x = x := by
 unfold wrap64
 omega
end Go.Proofs.YtihbgigledmliaaGreat

namespace Go.Proofs.YtihbgigledmliaaGreat
set_option linter.unusedVariables false
open Go.RowKit
attribute [local go_sem] Oper.semAt_some
theorem run_chg_idx (W : World) (b o len cap i : Nat) (hi : i < len) : (Instr.indexAt 78 (.slice (some ⟨b, o, none⟩) len cap) (.int .i64 (i : Int))).run Tryz.prog W = .ok (.pointer (some ⟨b, o + 5 * i, none⟩)) W := by
 rw [run_indexAt_slice W 78 ⟨b, o, none⟩ len cap .i64 (i : Int) (by kernel_rfl)]
 have h1 : (0 : Int) ≤ (i : Int) ∧ (i : Int) < (len : Int) := by omega
 rw [if_pos h1, show (Go.sizeOf (Tryz.prog.elem 78)).run Tryz.prog W = .ok 5 W from by kernel_rfl]
 simp [Result.andThen, Addr.add, Nat.mul_comm]
/-- what the iterator reads: its box, the changes' cells -/
def ItN (bx : Nat) (a : Option Addr) (n c : Nat) (E : Nat → List Value) (W : World) : Prop := W.cell? ⟨bx, 0, none⟩ = some (.slice a n c) ∧ ∀ i, i < n → ∃ b o, a = some ⟨b, o, none⟩ ∧ (E i).length = 5 ∧ W.rangeAt b (o + 5 * i) (E i)
def encI (x : Nat × List Value) : Array Value := #[.int .i64 (x.1 : Int), .agg x.2.toArray]
def outs (E : Nat → List Value) (n k : Nat) : List (Nat × List Value) := (((List.range n).drop k).reverse).map fun i => (i, E i)
theorem outs_end (E : Nat → List Value) (n : Nat) : outs E n n = [] := by
 unfold outs
 rw [List.drop_of_length_le (by simp)]
 rfl
theorem outs_step (E : Nat → List Value) (n k : Nat) (h : k < n) : outs E n k = outs E n (k + 1) ++ [(k, E k)] := by
 unfold outs
 rw [List.drop_eq_getElem_cons (by simpa using h)]
 simp
theorem five {l : List Value} (h : l.length = 5) : ∃ e0 e1 e2 e3 e4, l = [e0, e1, e2, e3, e4] := by
 match l, h with
 | [e0, e1, e2, e3, e4], _ => exact ⟨e0, e1, e2, e3, e4, rfl⟩
set_option maxRecDepth 100000 in
set_option maxHeartbeats 4000000 in
theorem backN_c (l bx n c : Nat) (a : Option Addr) (E : Nat → List Value) (hn : n ≤ 1000000000) (J Jx : List (Nat × List Value) → World → Prop) (W : World) (hIt : ∀ s W, J s W → ItN bx a n c E W)
  (hY : ∀ k, k < n → ∀ W1, J (outs E n (k + 1)) W1 → YieldAt Fence.wide 1 Tryz.prog l (encI (k, E k)) W1 fun e W' => (e = .returned (.bool true) ∧ J (outs E n k) W') ∨ (e = .returned (.bool false) ∧ Jx (outs E n k) W')) (h0 : J [] W) :
  CallsIn Fence.wide 2 Tryz.prog 115 (#[.func (.yield l) #[] #[]] ++ #[.pointer (some ⟨bx, 0, none⟩)]) W fun e W' => (∃ v, e = .returned v) ∧ (J (outs E n 0) W' ∨ ∃ pre, Jx pre W') := by
 have c0 := (hIt [] W h0).1
 have HJ0 := Lib.hid (show J (outs E n n) W from by rw [outs_end]; exact h0)
 have HIt := Lib.hid hIt
 have HY := Lib.hid hY
 clear hIt hY h0
 refine callsIn_of_wp Tryz.func115 rfl trivial ?_ rfl
 simp only [Tryz.ntmps115, List.size_toArray, List.length_cons, List.length_nil, Nat.reduceAdd, Nat.reduceSub, Array.replicate_succ, Array.replicate_zero, List.push_toArray, List.append_toArray, List.nil_append, List.cons_append]
 gi_wp2
 gi_loopw [3] (fun i wr => ∃ k : Nat, k ≤ n ∧ i = .int .i64 ((k : Int) - 1) ∧ Hid (J (outs E n k) wr)) (fun i _ => (intOf i + 1).toNat)
 case atStart => exact ⟨n, Nat.le_refl _, rfl, HJ0⟩
 case round =>
  clear c0 HJ0
  obtain ⟨k, hk, rfl, HJ⟩ := hrel
  cases k with
  | zero =>
   gi_wp2
   go_end0
   exact ⟨⟨_, rfl⟩, .inl HJ.out⟩
  | succ q =>
   obtain ⟨d0, hr⟩ := HIt.out _ _ HJ.out
   obtain ⟨b, o, rfl, hE, hrg⟩ := hr q (by omega)
   have e1 : ((q + 1 : Nat) : Int) - 1 = (q : Int) := by omega
   rw [e1]
   have hix := fun W => run_chg_idx W b o n c q (by omega)
   obtain ⟨x0, x1, x2, x3, x4, hx⟩ := five hE
   rw [hx] at hrg
   have c0 : wr.cell? ⟨b, o + 5 * q, none⟩ = some x0 := hrg 0 x0 rfl
   have c1 : wr.cell? ⟨b, o + 5 * q + 1, none⟩ = some x1 := hrg 1 x1 rfl
   have c2 : wr.cell? ⟨b, o + 5 * q + 2, none⟩ = some x2 := hrg 2 x2 rfl
   have c3 : wr.cell? ⟨b, o + 5 * q + 3, none⟩ = some x3 := hrg 3 x3 rfl
   have c4 : wr.cell? ⟨b, o + 5 * q + 4, none⟩ = some x4 := hrg 4 x4 rfl
   obtain ⟨fn, tmps, assign, body, hy, hR⟩ := HY.out q (by omega) wr HJ.out
   simp only [encI, hx] at hy
   clear hr hrg e1 hE hx
   gi_wp2
   refine hR.mono ?_
   rintro e W3 (⟨rfl, hJ3⟩ | ⟨rfl, hJx3⟩)
   ·
    have HJ3 := Lib.hid hJ3
    clear c0 c1 c2 c3 c4 hJ3 hy hR hix HJ
    gi_wp2
    exact ⟨⟨q, by omega, rfl, HJ3⟩, by simp [intOf]⟩
   ·
    have HJ3 := Lib.hid hJx3
    clear c0 c1 c2 c3 c4 hJx3 hy hR hix HJ
    gi_wp2
    refine bodyPost_ret (results_none rfl _ _ _) rfl ?_
    exact ⟨⟨_, rfl⟩, .inr ⟨_, HJ3.out⟩⟩
end Go.Proofs.YtihbgigledmliaaGreat

namespace Go.Proofs.YtihbgigledmliaaGreat
open Go.RowKit Go.Maps
set_option linter.unusedVariables false
theorem exec_cutD {a : Option Addr} {len cap k : Nat} (hk : k ≤ len) {A : Act} {x y : Operand} (hx : A.eval x = .slice a len cap) (hy : A.eval y = .int .i64 (k : Int)) (o : Oper) (ho : o.op = .slice 38 x (some y) none none) (W : World) :
  (execOp A.eval o).run Tryz.prog W = .ok (.value (.slice (sla a cap k) (len - k) (cap - k))) W := by
 unfold execOp
 simp only [ho, hx, hy, Option.map_none, Option.map_some]
 rw [Sem.run_bind, run_cutAt W a len cap k hk]
 rfl
set_option maxRecDepth 100000 in
set_option maxHeartbeats 4000000 in
theorem dread_ok {B d : Nat} {S : Dsk} {w : World} (h : DK B d S w) (s : ByteArray) (hs : s.size ≤ maxLen) (x n : Int) (hd : S.down = false) {b : Nat} {f : Fil} (ha : S.at s = some b) (hfl : S.fl b = some f) (hx : 0 ≤ x) (hn : 0 ≤ n) (hfz : f.zs.length ≤ 100000000000) :
  Calls Tryz.prog 54 #[.pointer (some ⟨d, 0, none⟩), .string s, .int .i64 x, .int .i64 n] w fun e w' => ∃ va vn vc, e = .returned (.tuple #[.slice va vn vc, .int .i64 0]) ∧ Own w' w.heap.size (.slice va vn vc) ((f.zs.drop x.toNat).take n.toNat) ∧ vn = ((f.zs.drop x.toNat).take n.toNat).length ∧ (∀ z ∈ (f.zs.drop x.toNat).take n.toNat, z < 256) ∧ Below w.heap.size w w' := by
 have HF := Lib.hid (dfind_c h s hs)
 rw [show S.find s = (some b, 0) from by unfold Dsk.find; rw [hd, ha]; rfl] at HF
 simp only [ptrOf, Option.map_some] at HF
 obtain ⟨ra, rc, hrow, hrl, -, hrd⟩ := ((h.rest.hf b f hfl).2.2.1).rd (h.rest.hf b f hfl).2.2.2
 have hzz := (h.rest.hf b f hfl).2.2.2
 have hnil : ra = none → rc = 0 := fun e => by
  rcases (h.rest.hf b f hfl).2.2.1.2 with ⟨h1, _⟩ | ⟨g, cap, cur, h1, _⟩
  ·
   rw [hrow] at h1
   exact (Value.slice.inj h1).2.2
  ·
   rw [hrow] at h1
   have := (Value.slice.inj h1).1
   rw [e] at this
   cases this
 have HC := Lib.hid ((h.rest.fcells hfl).2.trans (congrArg some hrow))
 obtain ⟨k, hmin, hkl, hke⟩ : ∃ k : Nat, min x (f.zs.length : Int) = (k : Int) ∧ k ≤ f.zs.length ∧ f.zs.drop k = f.zs.drop x.toNat := by
  by_cases hc : x.toNat ≤ f.zs.length
  ·
   exact ⟨x.toNat, by omega, hc, rfl⟩
  ·
   refine ⟨f.zs.length, by omega, Nat.le_refl _, ?_⟩
   rw [List.drop_length, List.drop_of_length_le (by omega)]
 obtain ⟨m, hmin2, hml, hme⟩ : ∃ m : Nat, min n (((f.zs.length - k : Nat)) : Int) = (m : Int) ∧ m ≤ f.zs.length - k ∧ (f.zs.drop k).take m = (f.zs.drop x.toNat).take n.toNat := by
  rw [← hke]
  by_cases hc : n.toNat ≤ f.zs.length - k
  ·
   exact ⟨n.toNat, by omega, hc, rfl⟩
  ·
   refine ⟨f.zs.length - k, by omega, Nat.le_refl _, ?_⟩
   rw [List.take_of_length_le (by rw [List.length_drop]; omega), List.take_of_length_le (by rw [List.length_drop]; omega)]
 have i1 : ¬ x < 0 := by omega
 have i2 : ¬ n < 0 := by omega
 have HRD := Lib.hid ((hrd.cut rc k hkl hrl).take m hml)
 rw [hme] at HRD
 have HZ := Lib.hid (show ∀ z ∈ (f.zs.drop x.toNat).take n.toNat, z < 256 from fun z hz => hzz z (List.mem_of_mem_drop (List.mem_of_mem_take hz)))
 have hhd := fun W => run_headAt W (sla ra rc k) (f.zs.length - k) (rc - k) m (by omega)
 have hnil2 : sla ra rc k = none → rc - k = 0 := fun e => by rw [hnil (sla_none _ _ _ e)]; omega
 clear h hrow hrd hzz hnil hke hme ha
 go_enter Tryz.func54, Tryz.ntmps54
 go_wp2_with fail
 refine HF.out.mono ?_
 rintro e1 w1 ⟨rfl, rfl⟩
 clear HF
 go_wp2_with fail
 (try dsimp only [Act.put, sT, sZ, sS])
 have HS := Lib.hid (show World.cell? (World.drew _) ⟨b, 1, none⟩ = some (.slice ra f.zs.length rc) from HC.out)
 have HL1 := Lib.hid (fun W (hW : World.cell? W ⟨b, 1, none⟩ = some (.slice ra f.zs.length rc)) => run_cell_b W ⟨b, 1, none⟩ ra f.zs.length rc hW)
 refine anyH_begin (S := fun W => World.cell? W ⟨b, 1, none⟩ = some (.slice ra f.zs.length rc)) (by kernel_rfl) ?_
 refine aP 0 (d := 28) (op := .move (.tmp 10)) (.pointer (some ⟨b, 0, none⟩)) HS.out ?_
 simp only [Act.put, sT, sZ, sS]
 refine aP 1 (d := 29) (op := .nilCheck (.tmp 28)) (.pointer (some ⟨b, 0, none⟩)) HS.out ?_
 simp only [Act.put, sT, sZ, sS]
 refine aP 2 (d := 30) (op := .fieldAddr 159 (.tmp 29) 1) (.pointer (some ⟨b, 1, none⟩)) HS.out ?_
 simp only [Act.put, sT, sZ, sS]
 refine aL 3 (d := 31) (ty := 38) (x := (.tmp 30)) (p := .pointer (some ⟨b, 1, none⟩)) (.slice ra f.zs.length rc) HL1.out HS.out ?_
 simp only [Act.put, sT, sZ, sS]
 refine aP 4 (d := 32) (op := .move (.tmp 2)) (.int .i64 x) HS.out ?_
 simp only [Act.put, sT, sZ, sS]
 refine aP 5 (d := 33) (op := .move (.tmp 10)) (.pointer (some ⟨b, 0, none⟩)) HS.out ?_
 simp only [Act.put, sT, sZ, sS]
 refine aP 6 (d := 34) (op := .nilCheck (.tmp 33)) (.pointer (some ⟨b, 0, none⟩)) HS.out ?_
 simp only [Act.put, sT, sZ, sS]
 refine aP 7 (d := 35) (op := .fieldAddr 159 (.tmp 34) 1) (.pointer (some ⟨b, 1, none⟩)) HS.out ?_
 simp only [Act.put, sT, sZ, sS]
 refine aL 8 (d := 36) (ty := 38) (x := (.tmp 35)) (p := .pointer (some ⟨b, 1, none⟩)) (.slice ra f.zs.length rc) HL1.out HS.out ?_
 simp only [Act.put, sT, sZ, sS]
 refine aP 9 (d := 37) (op := .call { callee := .builtin .len, args := #[(.tmp 36)], argTypes := #[38] }) (.int .i64 (f.zs.length : Int)) HS.out ?_
 simp only [Act.put, sT, sZ, sS]
 refine anyH_pureG 10 (d := 38) (op := .call { callee := .builtin .min, args := #[(.tmp 32), (.tmp 37)], argTypes := #[3, 3] }) (gd := none) (.int .i64 (k : Int)) (by rfl) wantedP (by kernel_rfl) (by kernel_rfl) (by kernel_rfl) (fun _ _ _ h => h) (fun o ho W hW => by unfold execOp; simp only [ho]; go_simp; try exact hmin) HS.out ?_
 simp only [Act.put, sT, sZ, sS]
 refine anyH_pureG 11 (d := 39) (op := .slice 38 (.tmp 31) (some (.tmp 38)) none none) (gd := none) (.slice (sla ra rc k) (f.zs.length - k) (rc - k)) (by rfl) wantedP (by kernel_rfl) (by kernel_rfl) (by kernel_rfl) (fun _ _ _ h => h) (fun o ho W hW => exec_cutD (x := .tmp 31) (y := .tmp 38) hkl (by rfl) (by rfl) o ho W) HS.out ?_
 simp only [Act.put, sT, sZ, sS]
 refine aP 12 (d := 12) (op := .assign (.tmp 39)) (.slice (sla ra rc k) (f.zs.length - k) (rc - k)) HS.out ?_
 simp only [Act.put, sT, sZ, sS]
 refine wpAnyH_done (by kernel_rfl) ?_ _
 clear HS HL1 HC
 go_wp2_with (at_builtin; refine wpList_catR rfl (.const (.slice none 0 0)) (.tmp 46) rfl _ (.slice none 0 0) [] _ (by rfl) (Own.nil _ _) (Nat.le_refl _) (sla ra rc k) m (rc - k) (by rfl) HRD.out.drew hnil2 (fun z hz => by cases hz) ?_ ?_)
 ·
  have := HRD.out.1
  simp only [List.length_nil, Nat.zero_add]
  omega
 ·
  intro va vn vc w7 hl7 _ _ _ _ ho7 hb7
  have HO := Lib.hid ho7
  have HB := Lib.hid hb7
  have HL := Lib.hid hl7
  clear ho7 hb7 hl7
  go_wp2_with fail
  go_ret2
  exact ⟨_, _, _, rfl, HO.out, by rw [List.length_take, List.length_drop]; exact HL.out.symm, HZ.out, (Below.refl _ _).drew.trans HB.out⟩
end Go.Proofs.YtihbgigledmliaaGreat
namespace Go.Proofs.YtihbgigledmliaaGreat
open Go.RowKit Go.Maps
set_option linter.unusedVariables false
theorem Own.cutTo {w : World} {B len cap k : Nat} {a : Option Addr} {zs : List Nat} (h : Own w B (.slice a len cap) zs) (hl : zs.length = len) (hk : k ≤ len) : Own w B (.slice a k cap) (zs.take k) := by
 have hkl : (zs.take k).length = k := by rw [List.length_take]; omega
 refine ⟨by rw [cellsOf_length, Nat.mul_one], ?_⟩
 rw [hkl]
 rcases h.2 with ⟨h1, h2⟩ | ⟨g, c, cur, h1, h2, h3, h4, h5, h6, h7⟩
 ·
  obtain ⟨e1, e2, e3⟩ := Value.slice.inj h1
  subst e1 e2 e3
  exact .inl ⟨by rw [show k = 0 by omega], by omega⟩
 ·
  obtain ⟨e1, e2, e3⟩ := Value.slice.inj h1
  subst e1 e3
  refine .inr ⟨g, cap, cur, rfl, h2, h3, by omega, h5, h6, ?_⟩
  rw [Nat.mul_one] at h7 ⊢
  rw [show cellsOf (zs.take k) = (cellsOf zs).take k by unfold cellsOf; rw [List.map_take], ← h7, List.take_take, Nat.min_eq_left (by omega)]
/-- what undo of an Append leaves: k of the file's bytes -/
def Dsk.cutf (S : Dsk) (b : Nat) (f : Fil) (v : Value) (k : Nat) : Dsk := { (S.file b ⟨f.nm, v, f.zs.take k⟩) with used := wrap64 (S.used - ((f.zs.length - k : Nat) : Int)) }
theorem run_cell_pf (W : World) (a : Addr) (v : Option Addr) (hc : W.cell? a = some (.pointer v)) : (Instr.loadAt 143 (.pointer (some a))).run Tryz.prog W = .ok (.pointer v) W := by go_simp
theorem exec_headD {a : Option Addr} {len cap k : Nat} (hk : k ≤ cap) {A : Act} {x y : Operand} (hx : A.eval x = .slice a len cap) (hy : A.eval y = .int .i64 (k : Int)) (o : Oper) (ho : o.op = .slice 38 x none (some y) none) (W : World) :
  (execOp A.eval o).run Tryz.prog W = .ok (.value (.slice a k cap)) W := by
 unfold execOp
 simp only [ho, hx, hy, Option.map_none, Option.map_some]
 rw [Sem.run_bind, run_headAt W a len cap k hk]
 rfl
set_option maxRecDepth 100000 in
set_option maxHeartbeats 8000000 in
theorem dundo_app {B d b : Nat} {S : Dsk} {f : Fil} {w : World} (h : DK B d S w) (hf : S.fl b = some f) (z stay : Int) (nm : ByteArray) (rp : Option Addr) (k : Nat) (hz0 : 0 ≤ z) (hs0 : 0 ≤ stay) (hz1 : z ≤ 1000000000000) (hs1 : stay ≤ 1000000000000) (hfz : f.zs.length ≤ 1000000000000) (hk : min (f.zs.length : Int) (z + stay) = (k : Int)) :
  Calls Tryz.prog 79 #[.pointer (some ⟨d, 0, none⟩), .agg #[.int .i64 1, .pointer (some ⟨b, 0, none⟩), .int .i64 z, .string nm, .pointer rp], .int .i64 stay] w fun e w' => e = .returned (.tuple #[]) ∧ ∃ v, v.ownBlock = f.row.ownBlock ∧ DK B d (S.cutf b f v k) w' ∧ Mov S d (S.cutf b f v k) w w' := by
 obtain ⟨ra, rc, hrow, hrl, -, -⟩ := ((h.rest.hf b f hf).2.2.1).rd (h.rest.hf b f hf).2.2.2
 have hkl : k ≤ f.zs.length := by omega
 have hkr : k ≤ rc := by omega
 obtain ⟨g, hgk⟩ : ∃ g, g = f.zs.length - k := ⟨_, rfl⟩
 have hg : max ((f.zs.length : Int) - z - stay) 0 = (g : Int) := by omega
 have hw1 : IntKind.i64.wrap ((f.zs.length : Int) - z) = (f.zs.length : Int) - z := by rw [IntKind.wrap_i64]; omega
 have hw2 : IntKind.i64.wrap ((f.zs.length : Int) - z - stay) = (f.zs.length : Int) - z - stay := by rw [IntKind.wrap_i64]; omega
 have hw3 : IntKind.i64.wrap ((f.zs.length : Int) - (g : Int)) = (k : Int) := by rw [IntKind.wrap_i64]; omega
 have HGK := Lib.hid hgk
 clear hgk
 obtain ⟨X, hX⟩ : ∃ X, X = w.heap.size := ⟨_, rfl⟩
 have hXb : X ≠ b := by have := (h.rest.kind (.inr (.inl ⟨f, hf⟩))).2.1; omega
 obtain ⟨w1, hw⟩ : ∃ w1, w1 = w.alloc (.cells #[.int .i64 1, .pointer (some ⟨b, 0, none⟩), .int .i64 z, .string nm, .pointer rp] 145) := ⟨_, rfl⟩
 have hh : w1.heap[X]? = some (.cells #[.int .i64 1, .pointer (some ⟨b, 0, none⟩), .int .i64 z, .string nm, .pointer rp] 145 (0, 0)) := by rw [hw, hX]; exact heap_alloc_new w _
 have b0 : w1.cell? ⟨X, 0, none⟩ = some (.int .i64 1) := (cell_of_row w1 X 0 _ _ _ hh).trans rfl
 have b1 : w1.cell? ⟨X, 1, none⟩ = some (.pointer (some ⟨b, 0, none⟩)) := (cell_of_row w1 X 1 _ _ _ hh).trans rfl
 have b2 : w1.cell? ⟨X, 2, none⟩ = some (.int .i64 z) := (cell_of_row w1 X 2 _ _ _ hh).trans rfl
 have hk1 : DK B d S w1 := by rw [hw]; exact h.alloc _
 have HM1 := Lib.hid (show Mov S d S w w1 from by rw [hw]; exact Mov.ofBelow ((Below.refl _ _).alloc (Nat.le_refl _) _))
 have HK1 := Lib.hid hk1
 have HXB := Lib.hid hXb
 have HF := Lib.hid hf
 have HROW := Lib.hid hrow
 clear hh hk1 h hXb hf hrow hk
 go_enter Tryz.func79, Tryz.ntmps79
 go_upto_region 1 with fail
 rw [← hX]
 rw [← hw]
 clear hX hw
 go_wp2_with fail
 (try dsimp only [Act.put, sT, sZ, sS])
 have HS := Lib.hid (show World.cell? (World.drew w1) ⟨X, 1, none⟩ = some (.pointer (some ⟨b, 0, none⟩)) ∧ World.cell? (World.drew w1) ⟨X, 2, none⟩ = some (.int .i64 z) ∧ World.cell? (World.drew w1) ⟨b, 1, none⟩ = some (.slice ra f.zs.length rc) from ⟨b1, b2, (HK1.out.rest.fcells HF.out).2.trans (congrArg some HROW.out)⟩)
 have HL1 := Lib.hid (fun W (hW : World.cell? W ⟨X, 1, none⟩ = some (.pointer (some ⟨b, 0, none⟩)) ∧ World.cell? W ⟨X, 2, none⟩ = some (.int .i64 z) ∧ World.cell? W ⟨b, 1, none⟩ = some (.slice ra f.zs.length rc)) => run_cell_pf W ⟨X, 1, none⟩ _ hW.1)
 have HL2 := Lib.hid (fun W (hW : World.cell? W ⟨X, 1, none⟩ = some (.pointer (some ⟨b, 0, none⟩)) ∧ World.cell? W ⟨X, 2, none⟩ = some (.int .i64 z) ∧ World.cell? W ⟨b, 1, none⟩ = some (.slice ra f.zs.length rc)) => run_cell_i W ⟨X, 2, none⟩ _ hW.2.1)
 have HL3 := Lib.hid (fun W (hW : World.cell? W ⟨X, 1, none⟩ = some (.pointer (some ⟨b, 0, none⟩)) ∧ World.cell? W ⟨X, 2, none⟩ = some (.int .i64 z) ∧ World.cell? W ⟨b, 1, none⟩ = some (.slice ra f.zs.length rc)) => run_cell_b W ⟨b, 1, none⟩ ra f.zs.length rc hW.2.2)
 refine anyH_begin (S := fun W => World.cell? W ⟨X, 1, none⟩ = some (.pointer (some ⟨b, 0, none⟩)) ∧ World.cell? W ⟨X, 2, none⟩ = some (.int .i64 z) ∧ World.cell? W ⟨b, 1, none⟩ = some (.slice ra f.zs.length rc)) (by kernel_rfl) ?_
 refine aP 0 (d := 17) (op := .fieldAddr 145 (.tmp 4) 1) (.pointer (some ⟨X, 1, none⟩)) HS.out ?_
 simp only [Act.put, sT, sZ, sS]
 refine aL 1 (d := 18) (ty := 143) (x := (.tmp 17)) (p := .pointer (some ⟨X, 1, none⟩)) (.pointer (some ⟨b, 0, none⟩)) HL1.out HS.out ?_
 simp only [Act.put, sT, sZ, sS]
 refine aP 2 (d := 19) (op := .nilCheck (.tmp 18)) (.pointer (some ⟨b, 0, none⟩)) HS.out ?_
 simp only [Act.put, sT, sZ, sS]
 refine aP 3 (d := 20) (op := .fieldAddr 159 (.tmp 19) 1) (.pointer (some ⟨b, 1, none⟩)) HS.out ?_
 simp only [Act.put, sT, sZ, sS]
 refine aL 4 (d := 21) (ty := 38) (x := (.tmp 20)) (p := .pointer (some ⟨b, 1, none⟩)) (.slice ra f.zs.length rc) HL3.out HS.out ?_
 simp only [Act.put, sT, sZ, sS]
 refine aP 5 (d := 22) (op := .call { callee := .builtin .len, args := #[(.tmp 21)], argTypes := #[38] }) (.int .i64 (f.zs.length : Int)) HS.out ?_
 simp only [Act.put, sT, sZ, sS]
 refine aP 6 (d := 23) (op := .fieldAddr 145 (.tmp 4) 2) (.pointer (some ⟨X, 2, none⟩)) HS.out ?_
 simp only [Act.put, sT, sZ, sS]
 refine aL 7 (d := 24) (ty := 3) (x := (.tmp 23)) (p := .pointer (some ⟨X, 2, none⟩)) (.int .i64 z) HL2.out HS.out ?_
 simp only [Act.put, sT, sZ, sS]
 refine anyH_pureG 8 (d := 25) (op := .binOp .sub 3 (.tmp 22) (.tmp 24) 3) (gd := none) (.int .i64 ((f.zs.length : Int) - z)) (by rfl) wantedP (by kernel_rfl) (by kernel_rfl) (by kernel_rfl) (fun _ _ _ h => h) (fun o ho W hW => by unfold execOp; simp only [ho]; go_simp; try exact hw1) HS.out ?_
 simp only [Act.put, sT, sZ, sS]
 refine aP 9 (d := 26) (op := .move (.tmp 2)) (.int .i64 stay) HS.out ?_
 simp only [Act.put, sT, sZ, sS]
 refine anyH_pureG 10 (d := 27) (op := .binOp .sub 3 (.tmp 25) (.tmp 26) 3) (gd := none) (.int .i64 ((f.zs.length : Int) - z - stay)) (by rfl) wantedP (by kernel_rfl) (by kernel_rfl) (by kernel_rfl) (fun _ _ _ h => h) (fun o ho W hW => by unfold execOp; simp only [ho]; go_simp; try exact hw2) HS.out ?_
 simp only [Act.put, sT, sZ, sS]
 refine anyH_pureG 11 (d := 28) (op := .call { callee := .builtin .max, args := #[(.tmp 27), (.const (.int .i64 0))], argTypes := #[3, 3] }) (gd := none) (.int .i64 (g : Int)) (by rfl) wantedP (by kernel_rfl) (by kernel_rfl) (by kernel_rfl) (fun _ _ _ h => h) (fun o ho W hW => by unfold execOp; simp only [ho]; go_simp; try exact hg) HS.out ?_
 simp only [Act.put, sT, sZ, sS]
 refine aP 12 (d := 6) (op := .assign (.tmp 28)) (.int .i64 (g : Int)) HS.out ?_
 simp only [Act.put, sT, sZ, sS]
 refine wpAnyH_done (by kernel_rfl) ?_ _
 clear HS HL1 HL2 HL3 hg hw1 hw2
 go_wp2_with fail
 (try dsimp only [Act.put, sT, sZ, sS])
 have HK2 := Lib.hid ((HK1.out.below (Below.refl _ _).drew).below (Below.refl _ _).drew)
 have HM2 := Lib.hid ((HM1.out.trans (Mov.ofBelow (S := S) (d := d) (Below.refl _ _).drew)).trans (Mov.ofBelow (S := S) (d := d) (Below.refl _ _).drew))
 have HS := Lib.hid (show World.cell? (World.drew (World.drew w1)) ⟨X, 1, none⟩ = some (.pointer (some ⟨b, 0, none⟩)) from b1)
 have HL1 := Lib.hid (fun W (hW : World.cell? W ⟨X, 1, none⟩ = some (.pointer (some ⟨b, 0, none⟩))) => run_cell_pf W ⟨X, 1, none⟩ _ hW)
 refine anyH_begin (S := fun W => World.cell? W ⟨X, 1, none⟩ = some (.pointer (some ⟨b, 0, none⟩))) (by kernel_rfl) ?_
 obtain ⟨w3, hw3'⟩ : ∃ w3, w3 = w1.drew.drew := ⟨_, rfl⟩
 rw [← hw3'] at HK2 HM2 HS ⊢
 have HLB := Lib.hid (run_cell_b w3 ⟨b, 1, none⟩ ra f.zs.length rc ((HK2.out.rest.fcells HF.out).2.trans (congrArg some HROW.out)))
 obtain ⟨g7, hk7, hm7⟩ := HK2.out.rowSet HF.out (v := .slice ra k rc) (zs' := f.zs.take k) (fun y hy => (HK2.out.rest.hf b f HF.out).2.2.2 y (List.mem_of_mem_take hy)) (by
  have ho := (HK2.out.rest.hf b f HF.out).2.2.1
  rw [HROW.out] at ho
  exact ho.cutTo rfl hkl) ⟨rfl, rfl, rfl, Nat.le_refl _, fun _ _ _ => rfl⟩ (.inl (by rw [HROW.out]; cases ra <;> rfl))
 have HTH := Lib.hid (show w3.there b 1 1 from fun j hj => by
  obtain rfl : j = 0 := by omega
  exact ⟨by rw [Nat.add_zero, g7.1]; rfl, g7.2⟩)
 have HK7 := Lib.hid hk7
 have HM7 := Lib.hid (HM2.out.trans hm7)
 clear hw3' b0 b1 b2 HK1 HM1 HK2 HM2 g7 hk7 hm7
 refine aP 0 (d := 29) (op := .fieldAddr 145 (.tmp 4) 1) (.pointer (some ⟨X, 1, none⟩)) HS.out ?_
 simp only [Act.put, sT, sZ, sS]
 refine aL 1 (d := 30) (ty := 143) (x := (.tmp 29)) (p := .pointer (some ⟨X, 1, none⟩)) (.pointer (some ⟨b, 0, none⟩)) HL1.out HS.out ?_
 simp only [Act.put, sT, sZ, sS]
 refine aP 2 (d := 31) (op := .fieldAddr 145 (.tmp 4) 1) (.pointer (some ⟨X, 1, none⟩)) HS.out ?_
 simp only [Act.put, sT, sZ, sS]
 refine aL 3 (d := 32) (ty := 143) (x := (.tmp 31)) (p := .pointer (some ⟨X, 1, none⟩)) (.pointer (some ⟨b, 0, none⟩)) HL1.out HS.out ?_
 simp only [Act.put, sT, sZ, sS]
 refine aP 4 (d := 33) (op := .nilCheck (.tmp 32)) (.pointer (some ⟨b, 0, none⟩)) HS.out ?_
 simp only [Act.put, sT, sZ, sS]
 refine aP 5 (d := 34) (op := .fieldAddr 159 (.tmp 33) 1) (.pointer (some ⟨b, 1, none⟩)) HS.out ?_
 simp only [Act.put, sT, sZ, sS]
 refine aP 7 (d := 36) (op := .fieldAddr 145 (.tmp 4) 1) (.pointer (some ⟨X, 1, none⟩)) HS.out ?_
 simp only [Act.put, sT, sZ, sS]
 refine aL 8 (d := 37) (ty := 143) (x := (.tmp 36)) (p := .pointer (some ⟨X, 1, none⟩)) (.pointer (some ⟨b, 0, none⟩)) HL1.out HS.out ?_
 simp only [Act.put, sT, sZ, sS]
 refine aP 9 (d := 38) (op := .nilCheck (.tmp 37)) (.pointer (some ⟨b, 0, none⟩)) HS.out ?_
 simp only [Act.put, sT, sZ, sS]
 refine aP 10 (d := 39) (op := .fieldAddr 159 (.tmp 38) 1) (.pointer (some ⟨b, 1, none⟩)) HS.out ?_
 simp only [Act.put, sT, sZ, sS]
 refine aP 13 (d := 42) (op := .move (.tmp 6)) (.int .i64 (g : Int)) HS.out ?_
 simp only [Act.put, sT, sZ, sS]
 refine wpAnyH_all (rs := [6, 11]) (by kernel_rfl) (by simp) ?_
 intro q hq
 simp only [List.mem_cons, List.not_mem_nil, or_false] at hq
 rcases hq with rfl | rfl
 ·
  refine op_atJ 6 (d := some 35) (op := .load 38 (.tmp 34)) (by rfl) ?_
  intro o6 hod6 hoo6
  refine wp_load_g 38 (.tmp 34) hoo6 (.pointer (some ⟨b, 1, none⟩)) (.slice ra f.zs.length rc) (by rfl) HLB.out ?_
  rw [hod6]
  clear hod6 hoo6
  simp only [Act.put, sT, sZ, sS]
  refine ⟨HS.out, ?_⟩
  refine wpAnyH_all (rs := [11]) (by kernel_rfl) (by simp) ?_
  intro k hk; simp only [List.mem_cons, List.not_mem_nil, or_false] at hk; subst hk
  refine op_atJ 11 (d := some 40) (op := .load 38 (.tmp 39)) (by rfl) ?_
  intro o11 hod11 hoo11
  refine wp_load_g 38 (.tmp 39) hoo11 (.pointer (some ⟨b, 1, none⟩)) (.slice ra f.zs.length rc) (by rfl) HLB.out ?_
  rw [hod11]
  clear hod11 hoo11
  simp only [Act.put, sT, sZ, sS]
  refine ⟨HS.out, ?_⟩
  refine aP 12 (d := 41) (op := .call { callee := .builtin .len, args := #[(.tmp 40)], argTypes := #[38] }) (.int .i64 (f.zs.length : Int)) HS.out ?_
  simp only [Act.put, sT, sZ, sS]
  refine anyH_pureG 14 (d := 43) (op := .binOp .sub 3 (.tmp 41) (.tmp 42) 3) (gd := none) (.int .i64 (k : Int)) (by rfl) wantedP (by kernel_rfl) (by kernel_rfl) (by kernel_rfl) (fun _ _ _ h => h) (fun o ho W hW => by unfold execOp; simp only [ho]; go_simp; try exact hw3) HS.out ?_
  simp only [Act.put, sT, sZ, sS]
  refine anyH_pureG 15 (d := 44) (op := .slice 38 (.tmp 35) none (some (.tmp 43)) none) (gd := none) (.slice ra k rc) (by rfl) wantedP (by kernel_rfl) (by kernel_rfl) (by kernel_rfl) (fun _ _ _ h => h) (fun o ho W hW => exec_headD (x := .tmp 35) (y := .tmp 43) hkr (by rfl) (by rfl) o ho W) HS.out ?_
  simp only [Act.put, sT, sZ, sS]
  refine aP 16 (d := 45) (op := .nilCheck (.tmp 30)) (.pointer (some ⟨b, 0, none⟩)) HS.out ?_
  simp only [Act.put, sT, sZ, sS]
  refine aP 17 (d := 46) (op := .fieldAddr 159 (.tmp 45) 1) (.pointer (some ⟨b, 1, none⟩)) HS.out ?_
  simp only [Act.put, sT, sZ, sS]
  refine wpAnyH_all (rs := [18]) (by kernel_rfl) (by simp) ?_
  intro k hk; simp only [List.mem_cons, List.not_mem_nil, or_false] at hk; subst hk
  refine op_atJ 18 (d := none) (op := .store 38 (.tmp 46) (.tmp 44)) (by rfl) ?_
  intro o0 hod hoo
  refine wp_store_one 38 (.tmp 46) (.tmp 44) hoo b 1 (.slice ra k rc) (by rfl) (by rfl) HTH.out (by kernel_rfl) (by rfl) (by rfl) ?_
  rw [hod]
  clear hod hoo
  simp only [Act.put, sT, sZ, sS]
  refine ⟨(World.cell?_setCell_other _ _ _ _ (by intro e; cases e; exact HXB.out rfl)).trans HS.out, ?_⟩
  refine wpAnyH_done (by kernel_rfl) ?_ _
  clear HS HLB HTH HL1
  obtain ⟨w8, hw8⟩ : ∃ w8, w8 = w3.setCells b 1 [.slice ra k rc] := ⟨_, rfl⟩
  have HK8 := Lib.hid (show DK B d (S.file b ⟨f.nm, .slice ra k rc, f.zs.take k⟩) w8 from by rw [hw8]; exact HK7.out)
  have HM8 := Lib.hid (show Mov S d (S.file b ⟨f.nm, .slice ra k rc, f.zs.take k⟩) _ w8 from by rw [hw8]; exact HM7.out)
  have c2 := HK8.out.cells.2.2.1
  have f2 := frozen_of_row _ d 2 _ _ HK8.out.hd
  rw [← hw8]
  clear hw8 HK7 HM7
  go_wp2_with fail
  go_end0
  obtain ⟨h8, h9, _⟩ := HK8.out.cellSet 2 (.int .i64 (wrap64 (S.used - (g : Int)))) { (S.file b ⟨f.nm, .slice ra k rc, f.zs.take k⟩) with used := wrap64 (S.used - (g : Int)) } rfl (by omega) rfl ⟨rfl, rfl, rfl⟩
  rw [HGK.out] at h8 h9 ⊢
  exact ⟨rfl, _, by rw [HROW.out]; cases ra <;> rfl, h8, HM8.out.trans h9⟩
 ·
  refine op_atJ 11 (d := some 40) (op := .load 38 (.tmp 39)) (by rfl) ?_
  intro o11 hod11 hoo11
  refine wp_load_g 38 (.tmp 39) hoo11 (.pointer (some ⟨b, 1, none⟩)) (.slice ra f.zs.length rc) (by rfl) HLB.out ?_
  rw [hod11]
  clear hod11 hoo11
  simp only [Act.put, sT, sZ, sS]
  refine ⟨HS.out, ?_⟩
  refine aP 12 (d := 41) (op := .call { callee := .builtin .len, args := #[(.tmp 40)], argTypes := #[38] }) (.int .i64 (f.zs.length : Int)) HS.out ?_
  simp only [Act.put, sT, sZ, sS]
  refine anyH_pureG 14 (d := 43) (op := .binOp .sub 3 (.tmp 41) (.tmp 42) 3) (gd := none) (.int .i64 (k : Int)) (by rfl) wantedP (by kernel_rfl) (by kernel_rfl) (by kernel_rfl) (fun _ _ _ h => h) (fun o ho W hW => by unfold execOp; simp only [ho]; go_simp; try exact hw3) HS.out ?_
  simp only [Act.put, sT, sZ, sS]
  refine wpAnyH_all (rs := [6]) (by kernel_rfl) (by simp) ?_
  intro k hk; simp only [List.mem_cons, List.not_mem_nil, or_false] at hk; subst hk
  refine op_atJ 6 (d := some 35) (op := .load 38 (.tmp 34)) (by rfl) ?_
  intro o6 hod6 hoo6
  refine wp_load_g 38 (.tmp 34) hoo6 (.pointer (some ⟨b, 1, none⟩)) (.slice ra f.zs.length rc) (by rfl) HLB.out ?_
  rw [hod6]
  clear hod6 hoo6
  simp only [Act.put, sT, sZ, sS]
  refine ⟨HS.out, ?_⟩
  refine anyH_pureG 15 (d := 44) (op := .slice 38 (.tmp 35) none (some (.tmp 43)) none) (gd := none) (.slice ra k rc) (by rfl) wantedP (by kernel_rfl) (by kernel_rfl) (by kernel_rfl) (fun _ _ _ h => h) (fun o ho W hW => exec_headD (x := .tmp 35) (y := .tmp 43) hkr (by rfl) (by rfl) o ho W) HS.out ?_
  simp only [Act.put, sT, sZ, sS]
  refine aP 16 (d := 45) (op := .nilCheck (.tmp 30)) (.pointer (some ⟨b, 0, none⟩)) HS.out ?_
  simp only [Act.put, sT, sZ, sS]
  refine aP 17 (d := 46) (op := .fieldAddr 159 (.tmp 45) 1) (.pointer (some ⟨b, 1, none⟩)) HS.out ?_
  simp only [Act.put, sT, sZ, sS]
  refine wpAnyH_all (rs := [18]) (by kernel_rfl) (by simp) ?_
  intro k hk; simp only [List.mem_cons, List.not_mem_nil, or_false] at hk; subst hk
  refine op_atJ 18 (d := none) (op := .store 38 (.tmp 46) (.tmp 44)) (by rfl) ?_
  intro o0 hod hoo
  refine wp_store_one 38 (.tmp 46) (.tmp 44) hoo b 1 (.slice ra k rc) (by rfl) (by rfl) HTH.out (by kernel_rfl) (by rfl) (by rfl) ?_
  rw [hod]
  clear hod hoo
  simp only [Act.put, sT, sZ, sS]
  refine ⟨(World.cell?_setCell_other _ _ _ _ (by intro e; cases e; exact HXB.out rfl)).trans HS.out, ?_⟩
  refine wpAnyH_done (by kernel_rfl) ?_ _
  clear HS HLB HTH HL1
  obtain ⟨w8, hw8⟩ : ∃ w8, w8 = w3.setCells b 1 [.slice ra k rc] := ⟨_, rfl⟩
  have HK8 := Lib.hid (show DK B d (S.file b ⟨f.nm, .slice ra k rc, f.zs.take k⟩) w8 from by rw [hw8]; exact HK7.out)
  have HM8 := Lib.hid (show Mov S d (S.file b ⟨f.nm, .slice ra k rc, f.zs.take k⟩) _ w8 from by rw [hw8]; exact HM7.out)
  have c2 := HK8.out.cells.2.2.1
  have f2 := frozen_of_row _ d 2 _ _ HK8.out.hd
  rw [← hw8]
  clear hw8 HK7 HM7
  go_wp2_with fail
  go_end0
  obtain ⟨h8, h9, _⟩ := HK8.out.cellSet 2 (.int .i64 (wrap64 (S.used - (g : Int)))) { (S.file b ⟨f.nm, .slice ra k rc, f.zs.take k⟩) with used := wrap64 (S.used - (g : Int)) } rfl (by omega) rfl ⟨rfl, rfl, rfl⟩
  rw [HGK.out] at h8 h9 ⊢
  exact ⟨rfl, _, by rw [HROW.out]; cases ra <;> rfl, h8, HM8.out.trans h9⟩
end Go.Proofs.YtihbgigledmliaaGreat
namespace Go.Proofs.YtihbgigledmliaaGreat
open Go.RowKit Go.Maps
set_option linter.unusedVariables false
attribute [local go_sem] Oper.semAt_some
def slc (a : Option Addr) (c m : Nat) : Option Addr := if c = m then a else a.map (·.add (5 * m))
theorem exec_lastN {a : Option Addr} {n c k : Nat} (hk : k ≤ n) (hc : n ≤ c) {A : Act} {x y : Operand} (hx : A.eval x = .slice a n c) (hy : A.eval y = .int .i64 (k : Int)) (o : Oper) (ho : o.op = .slice 78 x (some y) none none) (W : World) :
  (execOp A.eval o).run Tryz.prog W = .ok (.value (.slice (slc a c k) (n - k) (c - k))) W := by
 unfold execOp
 simp only [ho, hx, hy, Option.map_none, Option.map_some]
 rw [Sem.run_bind, run_sliceAt_slice W _ _ _ _ _ und_chgs, run_slice_l W _ a n c und_chgs .i64 (k : Int) (by omega) (by omega), elem_chgs, sizeOf_chg]
 simp [Result.andThen, sliced, slc, Nat.mul_comm]
theorem flat_getC : ∀ (l : List Chg) (i j : Nat) (c : Chg), l[i]? = some c → j < 5 → (l.flatMap Chg.cells)[5 * i + j]? = c.cells[j]?
 | [], i, j, c, h, _ => by cases h
 | x :: l, 0, j, c, h, hj => by
  cases h
  rw [List.flatMap_cons, Nat.mul_zero, Nat.zero_add, List.getElem?_append_left (by simpa [Chg.cells] using hj)]
 | x :: l, i + 1, j, c, h, hj => by
  rw [List.flatMap_cons, List.getElem?_append_right (by simp [Chg.cells]; omega)]
  have e : 5 * (i + 1) + j - x.cells.length = 5 * i + j := by simp [Chg.cells]; omega
  rw [e]
  exact flat_getC l i j c (by simpa using h) hj
/-- a change's cells by its place -/
def chE (S : Dsk) (kk i : Nat) : List Value := match S.loose[kk + i]? with
 | some c => c.cells
 | none => []
theorem DK.itn {B d n c bx kk : Nat} {S S' : Dsk} {a : Option Addr} {W : World} (h : DK B d S' W) (hlv : S.lv = .slice a n c) (h1 : S'.lv = S.lv) (h2 : S'.loose = S.loose) (hkk : kk ≤ n) (hb : W.cell? ⟨bx, 0, none⟩ = some (.slice (slc a c kk) (n - kk) (c - kk))) : ItN bx (slc a c kk) (n - kk) (c - kk) (chE S kk) W := by
 refine ⟨hb, fun i hi => ?_⟩
 have hl := h.rest.hl
 rw [h1, h2, hlv] at hl
 rcases hl.2 with ⟨e1, e2⟩ | ⟨g, cap, cur, e1, hB, hg, hn, hm, hs, ht⟩
 ·
  have := (Value.slice.inj e1).2.1
  omega
 ·
  obtain ⟨e2, e3, e4⟩ := Value.slice.inj e1
  subst e2 e4
  have hlen : kk + i < S.loose.length := by omega
  have hc : chE S kk i = (S.loose[kk + i]).cells := by unfold chE; rw [List.getElem?_eq_getElem hlen]
  have hne : ¬ c = kk := by omega
  refine ⟨g, 5 * kk, by unfold slc; rw [if_neg hne, Option.map_some, Addr.add_mid, Nat.zero_add], by rw [hc]; rfl, fun j v hj => ?_⟩
  have hj5 : j < 5 := by
   have := (List.getElem?_eq_some_iff.1 hj).1
   rw [hc] at this
   exact this
  rw [hc] at hj
  have hf := flat_getC S.loose (kk + i) j _ (List.getElem?_eq_getElem hlen) hj5
  rw [← ht, List.getElem?_take, if_pos (by omega), hj] at hf
  rw [show 5 * kk + 5 * i + j = 5 * (kk + i) + j by omega, cell_of_row W g _ cur _ _ hg, ← Array.getElem?_toList]
  exact hf
theorem Mov.keepL {S S' : Dsk} {d D : Nat} {w W W' : World} (h : Mov S d S' w W) (hk : KeepL D W W') (hD : w.heap.size ≤ D) : Mov S d S' w W' :=
 ⟨hk.os.trans h.os, hk.tape.trans h.tape, hk.output.trans h.output, Nat.le_trans h.size hk.size, fun k h1 h2 => (hk.blk k (by omega) (by omega)).trans (h.block k h1 h2), h.own⟩
end Go.Proofs.YtihbgigledmliaaGreat

namespace Go.Proofs.YtihbgigledmliaaGreat
set_option linter.unusedVariables false
/-- a change, as the document has it -/
structure DCh where
 kind : Nat
 a : ByteArray
 b : ByteArray
 p : List Nat
abbrev Fls := List (ByteArray × List Nat)
abbrev ltB (a b : ByteArray) : Prop := a.data.toList < b.data.toList
theorem ba_ext {a b : ByteArray} (h : a.data.toList = b.data.toList) : a = b := by
 cases a; cases b
 congr 1
 exact Array.toList_inj.1 h
theorem ltB_irrefl (a : ByteArray) : ¬ ltB a a := List.lt_irrefl _
theorem ltB_trans {a b c : ByteArray} (h : ltB a b) (k : ltB b c) : ltB a c := List.lt_trans h k
theorem ltB_of {a b : ByteArray} (h : ¬ ltB a b) (hn : a ≠ b) : ltB b a := by
 by_cases k : ltB b a
 ·
  exact k
 ·
  exact absurd (ba_ext (List.le_antisymm (List.not_lt.1 k) (List.not_lt.1 h))) hn
def lookF : Fls → ByteArray → Option (List Nat)
 | [], _ => none
 | x :: l, n => if x.1 = n then some x.2 else lookF l n
def withoutF : Fls → ByteArray → Fls
 | [], _ => []
 | x :: l, n => if x.1 = n then withoutF l n else x :: withoutF l n
def withF : Fls → ByteArray × List Nat → Fls
 | [], f => [f]
 | x :: l, f => if ltB f.1 x.1 then f :: x :: l else x :: withF l f
def doF (l : Fls) (c : DCh) : Fls :=
 if c.kind = 0 then withF l (c.a, [])
 else if c.kind = 1 then withF (withoutF l c.a) (c.a, (lookF l c.a).getD [] ++ c.p)
 else if c.kind = 2 then withoutF l c.a
 else withF (withoutF (withoutF l c.a) c.b) (c.b, (lookF l c.a).getD [])
theorem doF0 (l : Fls) (s b : ByteArray) (p : List Nat) : doF l ⟨0, s, b, p⟩ = withF l (s, []) := rfl
theorem doF1 (l : Fls) (s b : ByteArray) (p : List Nat) : doF l ⟨1, s, b, p⟩ = withF (withoutF l s) (s, (lookF l s).getD [] ++ p) := rfl
theorem doF2 (l : Fls) (s b : ByteArray) (p : List Nat) : doF l ⟨2, s, b, p⟩ = withoutF l s := rfl
theorem doF3 (l : Fls) (s b : ByteArray) (p : List Nat) : doF l ⟨3, s, b, p⟩ = withF (withoutF (withoutF l s) b) (b, (lookF l s).getD []) := rfl
def usedF : Fls → Nat
 | [] => 0
 | x :: l => x.2.length + usedF l
def Srt (l : Fls) : Prop := l.Pairwise fun x y => ltB x.1 y.1
theorem lookF_mem : ∀ {l : Fls} {n z}, lookF l n = some z → (n, z) ∈ l
 | [], n, z, h => by cases h
 | x :: l, n, z, h => by
  unfold lookF at h
  split at h
  ·
   rename_i e
   cases h
   subst e
   exact List.mem_cons_self
  ·
   exact List.mem_cons_of_mem _ (lookF_mem h)
theorem lookF_none : ∀ {l : Fls} {n}, lookF l n = none → ∀ x ∈ l, x.1 ≠ n
 | [], n, _, x, hx => by cases hx
 | y :: l, n, h, x, hx => by
  unfold lookF at h
  split at h
  ·
   cases h
  ·
   rename_i e
   rcases List.mem_cons.1 hx with rfl | hx
   ·
    exact e
   ·
    exact lookF_none h x hx
theorem lookF_none_of : ∀ {l : Fls} {n}, (∀ x ∈ l, x.1 ≠ n) → lookF l n = none
 | [], n, _ => rfl
 | y :: l, n, h => by
  unfold lookF
  rw [if_neg (h y List.mem_cons_self)]
  exact lookF_none_of fun x hx => h x (List.mem_cons_of_mem _ hx)
theorem lookF_of_mem : ∀ {l : Fls} {x}, Srt l → x ∈ l → lookF l x.1 = some x.2
 | [], x, _, h => by cases h
 | y :: l, x, hs, h => by
  unfold lookF
  rcases List.mem_cons.1 h with rfl | h
  ·
   rw [if_pos rfl]
  ·
   have hlt := (List.pairwise_cons.1 hs).1 x h
   rw [if_neg fun e => ltB_irrefl x.1 (by rw [e] at hlt; exact hlt)]
   exact lookF_of_mem (List.pairwise_cons.1 hs).2 h
theorem mem_withF {f : ByteArray × List Nat} : ∀ {l : Fls} {x}, x ∈ withF l f ↔ x = f ∨ x ∈ l
 | [], x => by simp [withF]
 | y :: l, x => by
  unfold withF
  split
  ·
   simp
  ·
   rw [List.mem_cons, mem_withF, List.mem_cons]
   constructor
   ·
    rintro (h | h | h)
    ·
     exact .inr (.inl h)
    ·
     exact .inl h
    ·
     exact .inr (.inr h)
   ·
    rintro (h | h | h)
    ·
     exact .inr (.inl h)
    ·
     exact .inl h
    ·
     exact .inr (.inr h)
theorem mem_withoutF {n : ByteArray} : ∀ {l : Fls} {x}, x ∈ withoutF l n ↔ x ∈ l ∧ x.1 ≠ n
 | [], x => by simp [withoutF]
 | y :: l, x => by
  unfold withoutF
  split
  ·
   rename_i e
   rw [mem_withoutF, List.mem_cons]
   constructor
   ·
    rintro ⟨h, k⟩
    exact ⟨.inr h, k⟩
   ·
    rintro ⟨h | h, k⟩
    ·
     subst h; exact absurd e k
    ·
     exact ⟨h, k⟩
  ·
   rename_i e
   rw [List.mem_cons, mem_withoutF, List.mem_cons]
   constructor
   ·
    rintro (h | ⟨h, k⟩)
    ·
     subst h; exact ⟨.inl rfl, e⟩
    ·
     exact ⟨.inr h, k⟩
   ·
    rintro ⟨h | h, k⟩
    ·
     exact .inl h
    ·
     exact .inr ⟨h, k⟩
theorem srt_with {f : ByteArray × List Nat} : ∀ {l : Fls}, Srt l → (∀ x ∈ l, x.1 ≠ f.1) → Srt (withF l f)
 | [], _, _ => by simp [withF, Srt]
 | y :: l, hs, hn => by
  obtain ⟨h1, h2⟩ := List.pairwise_cons.1 hs
  unfold withF
  split
  ·
   rename_i hlt
   refine List.pairwise_cons.2 ⟨fun x hx => ?_, hs⟩
   rcases List.mem_cons.1 hx with rfl | hx
   ·
    exact hlt
   ·
    exact ltB_trans hlt (h1 x hx)
  ·
   rename_i hlt
   refine List.pairwise_cons.2 ⟨fun x hx => ?_, srt_with h2 fun x hx => hn x (List.mem_cons_of_mem _ hx)⟩
   rcases mem_withF.1 hx with rfl | hx
   ·
    exact ltB_of hlt (hn y List.mem_cons_self).symm
   ·
    exact h1 x hx
theorem srt_without {n : ByteArray} : ∀ {l : Fls}, Srt l → Srt (withoutF l n)
 | [], _ => List.Pairwise.nil
 | y :: l, hs => by
  obtain ⟨h1, h2⟩ := List.pairwise_cons.1 hs
  unfold withoutF
  split
  ·
   exact srt_without h2
  ·
   exact List.pairwise_cons.2 ⟨fun x hx => h1 x (mem_withoutF.1 hx).1, srt_without h2⟩
theorem look_with {f : ByteArray × List Nat} (n : ByteArray) : ∀ {l : Fls}, lookF l f.1 = none → lookF (withF l f) n = if n = f.1 then some f.2 else lookF l n
 | [], _ => by
  simp only [withF, lookF]
  by_cases e : n = f.1
  ·
   rw [if_pos e.symm, if_pos e]
  ·
   rw [if_neg fun h => e h.symm, if_neg e]
 | y :: l, h => by
  have hy : y.1 ≠ f.1 := lookF_none h y List.mem_cons_self
  have hl : lookF l f.1 = none := by
   unfold lookF at h
   rwa [if_neg hy] at h
  unfold withF
  split
  ·
   by_cases e : n = f.1
   ·
    rw [if_pos e]
    show (if f.1 = n then _ else _) = _
    rw [if_pos e.symm]
   ·
    rw [if_neg e]
    show (if f.1 = n then _ else _) = _
    rw [if_neg fun h => e h.symm]
  ·
   show (if y.1 = n then _ else lookF (withF l f) n) = _
   rw [look_with n hl]
   show _ = if n = f.1 then some f.2 else (if y.1 = n then some y.2 else lookF l n)
   by_cases e : n = f.1
   ·
    rw [if_pos e, if_pos e, if_neg (fun h => hy (h.trans e))]
   ·
    rw [if_neg e, if_neg e]
theorem look_without (m n : ByteArray) : ∀ {l : Fls}, lookF (withoutF l m) n = if n = m then none else lookF l n
 | [] => by simp [withoutF, lookF]
 | y :: l => by
  unfold withoutF
  split
  ·
   rename_i e
   rw [look_without m n]
   by_cases h : n = m
   ·
    rw [if_pos h, if_pos h]
   ·
    rw [if_neg h, if_neg h]
    show _ = if y.1 = n then _ else _
    rw [if_neg fun k => h (k.symm.trans e)]
  ·
   rename_i e
   show (if y.1 = n then _ else lookF (withoutF l m) n) = _
   rw [look_without m n]
   show _ = if n = m then none else (if y.1 = n then some y.2 else lookF l n)
   by_cases h : n = m
   ·
    rw [if_pos h, if_pos h, if_neg fun k => e (k.trans h)]
   ·
    rw [if_neg h, if_neg h]
theorem used_with (f : ByteArray × List Nat) : ∀ l : Fls, usedF (withF l f) = usedF l + f.2.length
 | [] => by simp [withF, usedF]
 | y :: l => by
  unfold withF
  split
  ·
   simp only [usedF]; omega
  ·
   simp only [usedF, used_with f l]; omega
theorem without_none {n : ByteArray} : ∀ {l : Fls}, lookF l n = none → withoutF l n = l
 | [], _ => rfl
 | y :: l, h => by
  have hy : y.1 ≠ n := lookF_none h y List.mem_cons_self
  unfold lookF at h
  rw [if_neg hy] at h
  unfold withoutF
  rw [if_neg hy, without_none h]
theorem used_without {n : ByteArray} : ∀ {l : Fls}, Srt l → usedF (withoutF l n) + ((lookF l n).getD []).length = usedF l
 | [], _ => rfl
 | y :: l, hs => by
  obtain ⟨h1, h2⟩ := List.pairwise_cons.1 hs
  unfold withoutF lookF
  by_cases e : y.1 = n
  ·
   rw [if_pos e, if_pos e, without_none]
   ·
    simp only [usedF, Option.getD_some]; omega
   ·
    exact lookF_none_of fun x hx k => ltB_irrefl y.1 (by have := h1 x hx; rwa [k, ← e] at this)
  ·
   rw [if_neg e, if_neg e]
   have := used_without (n := n) h2
   simp only [usedF]; omega
theorem length_with (f : ByteArray × List Nat) : ∀ l : Fls, (withF l f).length = l.length + 1
 | [] => rfl
 | y :: l => by
  unfold withF
  split
  ·
   rfl
  ·
   simp [length_with f l]
theorem length_without {n : ByteArray} : ∀ {l : Fls}, Srt l → (withoutF l n).length + (if (lookF l n).isSome then 1 else 0) = l.length
 | [], _ => rfl
 | y :: l, hs => by
  obtain ⟨h1, h2⟩ := List.pairwise_cons.1 hs
  unfold withoutF lookF
  by_cases e : y.1 = n
  ·
   rw [if_pos e, if_pos e, without_none]
   ·
    simp
   ·
    exact lookF_none_of fun x hx k => ltB_irrefl y.1 (by have := h1 x hx; rwa [k, ← e] at this)
  ·
   rw [if_neg e, if_neg e]
   have := length_without (n := n) h2
   simp only [List.length_cons]; omega
/-- two lists in order that say the same of each name are one -/
theorem srt_ext : ∀ {l m : Fls}, Srt l → Srt m → (∀ n, lookF l n = lookF m n) → l = m
 | [], [], _, _, _ => rfl
 | [], y :: m, _, _, h => by
  have := h y.1
  simp [lookF] at this
 | x :: l, [], _, _, h => by
  have := h x.1
  simp [lookF] at this
 | x :: l, y :: m, hl, hm, h => by
  obtain ⟨h1, h2⟩ := List.pairwise_cons.1 hl
  obtain ⟨h3, h4⟩ := List.pairwise_cons.1 hm
  have hxy : x.1 = y.1 := by
   have a1 := lookF_mem ((h x.1).symm.trans (lookF_of_mem hl List.mem_cons_self))
   have a2 := lookF_mem ((h y.1).trans (lookF_of_mem hm List.mem_cons_self))
   rcases List.mem_cons.1 a1 with a1 | a1
   ·
    exact congrArg Prod.fst a1
   ·
    rcases List.mem_cons.1 a2 with a2 | a2
    ·
     exact (congrArg Prod.fst a2).symm
    ·
     exact absurd (ltB_trans (h1 _ a2) (h3 _ a1)) (ltB_irrefl _)
  have hx2 : x.2 = y.2 := by
   have := h x.1
   simp only [lookF, if_true, hxy] at this
   exact Option.some.inj this
  have e : x = y := Prod.ext hxy hx2
  subst e
  congr 1
  refine srt_ext h2 h4 fun n => ?_
  by_cases k : x.1 = n
  ·
   rw [lookF_none_of (l := l) fun z hz e => ltB_irrefl z.1 (by have := h1 z hz; rwa [k, ← e] at this), lookF_none_of (l := m) fun z hz e => ltB_irrefl z.1 (by have := h3 z hz; rwa [k, ← e] at this)]
  ·
   have := h n
   simp only [lookF, if_neg k] at this
   exact this
end Go.Proofs.YtihbgigledmliaaGreat
namespace Go.Proofs.YtihbgigledmliaaGreat
set_option linter.unusedVariables false
structure Vw where
 ix : ByteArray → Option Nat
 zs : Nat → List Nat
 nm : Nat → ByteArray
def Vw.set (V : Vw) (s : ByteArray) (x : Option Nat) : Vw := { V with ix := fun t => if t = s then x else V.ix t }
def Vw.bytes (V : Vw) (b : Nat) (z : List Nat) : Vw := { V with zs := fun c => if c = b then z else V.zs c }
def Vw.name (V : Vw) (b : Nat) (s : ByteArray) : Vw := { V with nm := fun c => if c = b then s else V.nm c }
def Vw.undo (V : Vw) (c : Chg) (stay : Nat) : Vw :=
 if c.kind = 0 then V.set (V.nm c.file) none
 else if c.kind = 1 then V.bytes c.file ((V.zs c.file).take (c.size.toNat + stay))
 else if c.kind = 2 then V.set (V.nm c.file) (some c.file)
 else match c.repl with
  | none => ((V.set (V.nm c.file) none).name c.file c.name).set c.name (some c.file)
  | some r => (((V.set (V.nm c.file) none).name c.file c.name).set c.name (some c.file)).set (V.nm r) (some r)
/-- files by blocks are files by names -/
structure Ab (V : Vw) (l : Fls) : Prop where
 look : ∀ s, (V.ix s).map V.zs = lookF l s
 nm : ∀ s b, V.ix s = some b → V.nm b = s
 srt : Srt l
theorem Ab.has {V : Vw} {l : Fls} (h : Ab V l) {s : ByteArray} {b : Nat} (hb : V.ix s = Option.some b) : lookF l s = Option.some (V.zs b) := by
 rw [← h.look, hb]; rfl
theorem Ab.lacks {V : Vw} {l : Fls} (h : Ab V l) {s : ByteArray} (hb : V.ix s = Option.none) : lookF l s = Option.none := by
 rw [← h.look, hb]; rfl
theorem Ab.inj {V : Vw} {l : Fls} (h : Ab V l) {s t : ByteArray} {b : Nat} (hs : V.ix s = some b) (ht : V.ix t = some b) : s = t := (h.nm s b hs).symm.trans (h.nm t b ht)
/-- what a loose change tells of the files behind it -/
structure Fit (V : Vw) (c : Chg) (o : DCh) : Prop where
 kind : c.kind = (o.kind : Int)
 k3 : o.kind ≤ 3
 k0 : o.kind = 0 → V.ix o.a = some c.file
 k1 : o.kind = 1 → V.ix o.a = some c.file ∧ 0 ≤ c.size ∧ c.size ≤ 1000000000 ∧ c.size.toNat ≤ (V.zs c.file).length ∧ (V.zs c.file).drop c.size.toNat = o.p ∧ o.p.length ≤ 1048576
 k2 : o.kind = 2 → V.nm c.file = o.a ∧ V.ix o.a = .none
 k3a : o.kind = 3 → V.ix o.b = some c.file ∧ c.name = o.a ∧ (o.a ≠ o.b → V.ix o.a = .none) ∧ (c.repl = .none ∨ ∃ r, c.repl = some r ∧ r ≠ c.file ∧ V.nm r = o.b ∧ o.a ≠ o.b)
/-- the states to which loose changes, the last one first, lead back -/
inductive Chn (R : Nat) : Vw → List Chg → Fls → List DCh → Fls → Prop
 | nil {V : Vw} {l : Fls} : Ab V l → usedF l ≤ R → Chn R V [] l [] l
 | cons {V : Vw} {c : Chg} {cs : List Chg} {l l' : Fls} {o : DCh} {os : List DCh} {sure : Fls} : Ab V l → usedF l ≤ R → l = doF l' o → Fit V c o → Chn R (V.undo c 0) cs l' os sure → Chn R V (c :: cs) l (o :: os) sure
theorem Chn.ab {R : Nat} {V : Vw} {cs : List Chg} {l : Fls} {os : List DCh} {sure : Fls} (h : Chn R V cs l os sure) : Ab V l := by cases h <;> assumption
theorem Chn.used {R : Nat} {V : Vw} {cs : List Chg} {l : Fls} {os : List DCh} {sure : Fls} (h : Chn R V cs l os sure) : usedF l ≤ R := by cases h <;> assumption
theorem Chn.len {R : Nat} {V : Vw} {cs : List Chg} {l : Fls} {os : List DCh} {sure : Fls} (h : Chn R V cs l os sure) : cs.length = os.length := by
 induction h with
 | nil => rfl
 | cons _ _ _ _ _ ih => simp [ih]
/-- the changes done again, from the files that last -/
theorem Chn.fold {R : Nat} {V : Vw} {cs : List Chg} {l : Fls} {os : List DCh} {sure : Fls} (h : Chn R V cs l os sure) : l = os.foldr (fun o l => doF l o) sure := by
 induction h with
 | nil => rfl
 | cons _ _ h1 _ _ ih => rw [List.foldr_cons, ← ih]; exact h1
theorem Vw.ext3 {V W : Vw} (h1 : V.ix = W.ix) (h2 : V.zs = W.zs) (h3 : V.nm = W.nm) : V = W := by cases V; cases W; cases h1; cases h2; cases h3; rfl
/-- two views that say the same of the blocks in X -/
structure Agr (X : Nat → Prop) (V W : Vw) : Prop where
 ix : V.ix = W.ix
 zs : ∀ b, X b → V.zs b = W.zs b
 nm : ∀ b, X b → V.nm b = W.nm b
 ran : ∀ s b, V.ix s = some b → X b
def inX (X : Nat → Prop) (c : Chg) : Prop := X c.file ∧ ∀ r, c.repl = some r → X r
theorem Agr.set {X : Nat → Prop} {V W : Vw} (h : Agr X V W) (s : ByteArray) (x : Option Nat) (hx : ∀ b, x = some b → X b) : Agr X (V.set s x) (W.set s x) :=
 ⟨by unfold Vw.set; simp only [h.ix], h.zs, h.nm, fun t b hb => by
  have hb' : (if t = s then x else V.ix t) = some b := hb
  split at hb'
  ·
   exact hx b hb'
  ·
   exact h.ran t b hb'⟩
theorem Agr.name {X : Nat → Prop} {V W : Vw} (h : Agr X V W) (c : Nat) (s : ByteArray) : Agr X (V.name c s) (W.name c s) :=
 ⟨h.ix, h.zs, fun b hb => by
  show (if b = c then s else V.nm b) = (if b = c then s else W.nm b)
  rw [h.nm b hb], h.ran⟩
theorem Agr.undo {X : Nat → Prop} {V W : Vw} (h : Agr X V W) {c : Chg} (hc : inX X c) (k : Nat) : Agr X (V.undo c k) (W.undo c k) := by
 unfold Vw.undo
 have hn := h.nm _ hc.1
 split
 ·
  rw [hn]; exact h.set _ _ fun b e => by cases e
 ·
  split
  ·
   refine ⟨h.ix, fun b hb => ?_, h.nm, h.ran⟩
   show (if b = c.file then _ else V.zs b) = (if b = c.file then _ else W.zs b)
   rw [h.zs b hb, h.zs _ hc.1]
  ·
   split
   ·
    rw [hn]; exact h.set _ _ fun b e => by cases e; exact hc.1
   ·
    split
    ·
     rw [hn]; exact ((h.set _ _ fun b e => by cases e).name _ _).set _ _ fun b e => by cases e; exact hc.1
    ·
     rename_i r hr
     rw [hn, h.nm r (hc.2 r hr)]
     exact (((h.set _ _ fun b e => by cases e).name _ _).set _ _ fun b e => by cases e; exact hc.1).set _ _ fun b e => by cases e; exact hc.2 r hr
theorem Agr.ab {X : Nat → Prop} {V W : Vw} (h : Agr X V W) {l : Fls} (ha : Ab V l) : Ab W l :=
 ⟨fun s => by
  rw [← ha.look, ← h.ix]
  cases e : V.ix s with
  | none => rfl
  | some b => simp only [Option.map_some]; rw [h.zs b (h.ran s b e)], fun s b hb => by
  rw [← h.ix] at hb
  rw [← h.nm b (h.ran s b hb)]
  exact ha.nm s b hb, ha.srt⟩
theorem Agr.fit {X : Nat → Prop} {V W : Vw} (h : Agr X V W) {c : Chg} (hc : inX X c) {o : DCh} (hf : Fit V c o) : Fit W c o := by
 have hz := h.zs _ hc.1
 have hn := h.nm _ hc.1
 refine ⟨hf.kind, hf.k3, fun e => by rw [← h.ix]; exact hf.k0 e, fun e => ?_, fun e => ?_, fun e => ?_⟩
 ·
  rw [← h.ix, ← hz]; exact hf.k1 e
 ·
  rw [← h.ix, ← hn]; exact hf.k2 e
 ·
  obtain ⟨h1, h2, h3, h4⟩ := hf.k3a e
  rw [← h.ix]
  refine ⟨h1, h2, h3, ?_⟩
  rcases h4 with h4 | ⟨r, h4, h5, h6, h7⟩
  ·
   exact .inl h4
  ·
   exact .inr ⟨r, h4, h5, by rw [← h.nm r (hc.2 r h4)]; exact h6, h7⟩
theorem Chn.agr {R : Nat} {X : Nat → Prop} {V : Vw} {cs : List Chg} {l : Fls} {os : List DCh} {sure : Fls} (h : Chn R V cs l os sure) : ∀ {W : Vw}, Agr X V W → (∀ c ∈ cs, inX X c) → Chn R W cs l os sure := by
 induction h with
 | nil h1 h2 => intro W ha _; exact .nil (ha.ab h1) h2
 | cons h1 h2 h3 h4 _ ih =>
  intro W ha hc
  have hc0 := hc _ List.mem_cons_self
  exact .cons (ha.ab h1) h2 h3 (ha.fit hc0 h4) (ih (ha.undo hc0 0) fun c hm => hc c (List.mem_cons_of_mem _ hm))
/-- an Append that is taken back in part -/
theorem Ab.part {V : Vw} {c : Chg} {o : DCh} {l l' : Fls} (h : Ab V l) (hd : l = doF l' o) (hf : Fit V c o) (h' : Ab (V.undo c 0) l') (hk : o.kind = 1) (st : Nat) : Ab (V.undo c st) (doF l' { o with p := o.p.take st }) := by
 obtain ⟨h1, h2, h2', h3, h4, h5⟩ := hf.k1 hk
 have hck : c.kind = 1 := by rw [hf.kind, hk]; rfl
 have e0 : ∀ k, V.undo c k = V.bytes c.file ((V.zs c.file).take (c.size.toNat + k)) := fun k => by
  unfold Vw.undo
  rw [if_neg (by omega), if_pos hck]
 rw [e0] at h' ⊢
 have hl' : lookF l' o.a = some ((V.zs c.file).take c.size.toNat) := by
  rw [h'.has (s := o.a) (b := c.file) h1]
  show some (if c.file = c.file then _ else _) = _
  rw [if_pos rfl, Nat.add_zero]
 have hs : Srt (withoutF l' o.a) := srt_without h'.srt
 have hn : lookF (withoutF l' o.a) o.a = .none := by rw [look_without, if_pos rfl]
 have e1 : doF l' { o with p := o.p.take st } = withF (withoutF l' o.a) (o.a, (V.zs c.file).take c.size.toNat ++ o.p.take st) := by
  unfold doF
  rw [if_neg (by show ¬ o.kind = 0; omega), if_pos (by exact hk)]
  show withF (withoutF l' o.a) (o.a, (lookF l' o.a).getD [] ++ o.p.take st) = _
  rw [hl']
  rfl
 rw [e1]
 refine ⟨fun s => ?_, fun s b hb => h.nm s b hb, srt_with hs fun x hx => (mem_withoutF.1 hx).2⟩
 rw [look_with s hn, look_without]
 by_cases e : s = o.a
 ·
  rw [if_pos e, e]
  show (V.ix o.a).map _ = _
  rw [h1]
  show some (if c.file = c.file then _ else _) = _
  rw [if_pos rfl, ← h4, ← List.take_add]
 ·
  rw [if_neg e, if_neg e]
  have := h'.look s
  show (V.ix s).map _ = _
  rw [← this]
  show (V.ix s).map _ = (V.ix s).map _
  cases ev : V.ix s with
  | none => rfl
  | some b =>
   have hb : b ≠ c.file := fun k => e (h.inj ev (by rw [k]; exact h1))
   simp only [Option.map_some, Vw.bytes, if_neg hb]
/-- forward: Create -/
theorem Ab.create {V : Vw} {l : Fls} (h : Ab V l) (s : ByteArray) (b : Nat) (hs : V.ix s = .none) (hb : ∀ t c, V.ix t = some c → c ≠ b) : Ab (((V.bytes b []).name b s).set s (some b)) (doF l ⟨0, s, ⟨#[]⟩, []⟩) := by
 have hn := h.lacks hs
 refine ⟨fun t => ?_, fun t c hc => ?_, ?_⟩
 ·
  show (if t = s then some b else V.ix t).map (fun c => if c = b then [] else V.zs c) = _
  rw [doF0, look_with t hn]
  by_cases e : t = s
  ·
   rw [if_pos e, if_pos e]; simp
  ·
   rw [if_neg e, if_neg e, ← h.look]
   cases ev : V.ix t with
   | none => rfl
   | some c =>
    simp only [Option.map_some]
    rw [if_neg (hb t c ev)]
 ·
  have hc' : (if t = s then some b else V.ix t) = some c := hc
  show (if c = b then s else V.nm c) = t
  split at hc'
  ·
   rename_i e; cases hc'; rw [if_pos rfl, e]
  ·
   rw [if_neg (hb t c hc')]; exact h.nm t c hc'
 ·
  exact srt_with h.srt (lookF_none hn)
theorem Ab.append {V : Vw} {l : Fls} (h : Ab V l) (s : ByteArray) (b : Nat) (p : List Nat) (hs : V.ix s = some b) : Ab (V.bytes b (V.zs b ++ p)) (doF l ⟨1, s, ⟨#[]⟩, p⟩) := by
 have hn : lookF (withoutF l s) s = .none := by rw [look_without, if_pos rfl]
 have hd : doF l ⟨1, s, ⟨#[]⟩, p⟩ = withF (withoutF l s) (s, V.zs b ++ p) := by
  rw [doF1, h.has hs]
  rfl
 rw [hd]
 refine ⟨fun t => ?_, fun t c hc => h.nm t c hc, srt_with (srt_without h.srt) fun x hx => (mem_withoutF.1 hx).2⟩
 rw [look_with t hn, look_without]
 show (V.ix t).map (fun c => if c = b then _ else V.zs c) = _
 by_cases e : t = s
 ·
  rw [if_pos e, e, hs]; simp
 ·
  rw [if_neg e, if_neg e, ← h.look]
  cases ev : V.ix t with
  | none => rfl
  | some c =>
   simp only [Option.map_some]
   rw [if_neg (fun k => e (h.inj ev (by rw [k]; exact hs)))]
theorem Ab.remove {V : Vw} {l : Fls} (h : Ab V l) (s : ByteArray) : Ab (V.set s .none) (withoutF l s) := by
 refine ⟨fun t => ?_, fun t c hc => ?_, srt_without h.srt⟩
 ·
  rw [look_without]
  show (if t = s then .none else V.ix t).map V.zs = _
  by_cases e : t = s
  ·
   rw [if_pos e, if_pos e]; rfl
  ·
   rw [if_neg e, if_neg e, h.look]
 ·
  have hc' : (if t = s then .none else V.ix t) = some c := hc
  split at hc'
  ·
   cases hc'
  ·
   exact h.nm t c hc'
theorem Ab.rename {V : Vw} {l : Fls} (h : Ab V l) (s t : ByteArray) (b : Nat) (hs : V.ix s = some b) : Ab (((V.set s .none).name b t).set t (some b)) (doF l ⟨3, s, t, []⟩) := by
 have hn : lookF (withoutF (withoutF l s) t) t = .none := by rw [look_without, if_pos rfl]
 have hd : doF l ⟨3, s, t, []⟩ = withF (withoutF (withoutF l s) t) (t, V.zs b) := by
  rw [doF3, h.has hs]
  rfl
 rw [hd]
 refine ⟨fun x => ?_, fun x c hc => ?_, srt_with (srt_without (srt_without h.srt)) fun x hx => (mem_withoutF.1 hx).2⟩
 ·
  rw [look_with x hn, look_without, look_without]
  show (if x = t then some b else if x = s then .none else V.ix x).map V.zs = _
  by_cases e : x = t
  ·
   rw [if_pos e, if_pos e]; rfl
  ·
   rw [if_neg e, if_neg e, if_neg e]
   by_cases k : x = s
   ·
    rw [if_pos k, if_pos k]; rfl
   ·
    rw [if_neg k, if_neg k, h.look]
 ·
  have hc' : (if x = t then some b else if x = s then .none else V.ix x) = some c := hc
  show (if c = b then t else V.nm c) = x
  split at hc'
  ·
   rename_i e; cases hc'; rw [if_pos rfl, e]
  ·
   split at hc'
   ·
    cases hc'
   ·
    rename_i e k
    rw [if_neg fun j => k (h.inj hc' (by rw [j]; exact hs))]
    exact h.nm x c hc'
/-- forward, with the change that takes it back -/
theorem Chn.create {R : Nat} {X : Nat → Prop} {V : Vw} {cs : List Chg} {l : Fls} {os : List DCh} {sure : Fls} (h : Chn R V cs l os sure) (hc : ∀ c ∈ cs, inX X c) (hr : ∀ s b, V.ix s = some b → X b) (s : ByteArray) (b : Nat) (hs : V.ix s = .none) (hb : ¬ X b) (z : Int) (n : ByteArray) (r : Option Nat) :
  Chn R (((V.bytes b []).name b s).set s (some b)) (⟨0, b, z, n, r⟩ :: cs) (doF l ⟨0, s, ⟨#[]⟩, []⟩) (⟨0, s, ⟨#[]⟩, []⟩ :: os) sure := by
 have hne : ∀ c, X c → c ≠ b := fun c hx e => hb (by rw [← e]; exact hx)
 refine .cons (h.ab.create s b hs fun t c k => hne c (hr t c k)) ?_ rfl ⟨rfl, Nat.zero_le _, fun _ => ?_, fun e => (by cases e), fun e => (by cases e), fun e => (by cases e)⟩ (h.agr (X := X) ⟨?_, fun c hx => ?_, fun c hx => ?_, hr⟩ hc)
 ·
  rw [doF0, used_with]
  exact h.used
 ·
  show (if s = s then some b else _) = _
  rw [if_pos rfl]
 ·
  unfold Vw.undo
  rw [if_pos rfl]
  funext t
  show V.ix t = if t = (if b = b then s else V.nm b) then .none else if t = s then some b else V.ix t
  rw [if_pos rfl]
  by_cases e : t = s
  ·
   rw [if_pos e, e]; exact hs
  ·
   rw [if_neg e, if_neg e]
 ·
  unfold Vw.undo
  rw [if_pos rfl]
  show V.zs c = if c = b then [] else V.zs c
  rw [if_neg (hne c hx)]
 ·
  unfold Vw.undo
  rw [if_pos rfl]
  show V.nm c = if c = b then s else V.nm c
  rw [if_neg (hne c hx)]
theorem Chn.append {R : Nat} {V : Vw} {cs : List Chg} {l : Fls} {os : List DCh} {sure : Fls} (h : Chn R V cs l os sure) (s : ByteArray) (b : Nat) (p : List Nat) (hs : V.ix s = some b) (hR : usedF l + p.length ≤ R) (hR2 : R ≤ 1000000000) (hp : p.length ≤ 1048576) (n : ByteArray) (r : Option Nat) :
  Chn R (V.bytes b (V.zs b ++ p)) (⟨1, b, ((V.zs b).length : Int), n, r⟩ :: cs) (doF l ⟨1, s, ⟨#[]⟩, p⟩) (⟨1, s, ⟨#[]⟩, p⟩ :: os) sure := by
 have hu := used_without (n := s) h.ab.srt
 rw [h.ab.has hs] at hu
 simp only [Option.getD_some] at hu
 have hz : (V.bytes b (V.zs b ++ p)).zs b = V.zs b ++ p := by show (if b = b then _ else _) = _; rw [if_pos rfl]
 refine .cons (h.ab.append s b p hs) ?_ rfl ⟨rfl, by show 1 ≤ 3; omega, fun e => (by cases e), fun _ => ⟨hs, by show (0 : Int) ≤ ((V.zs b).length : Int); omega, by show ((V.zs b).length : Int) ≤ _; omega, ?_, ?_, hp⟩, fun e => (by cases e), fun e => (by cases e)⟩ ?_
 ·
  have hd : doF l ⟨1, s, ⟨#[]⟩, p⟩ = withF (withoutF l s) (s, V.zs b ++ p) := by
   rw [doF1, h.ab.has hs]
   rfl
  rw [hd, used_with, List.length_append]
  omega
 ·
  rw [hz]
  show ((V.zs b).length : Int).toNat ≤ _
  rw [List.length_append]; omega
 ·
  rw [hz]
  show List.drop ((V.zs b).length : Int).toNat _ = _
  rw [Int.toNat_natCast, List.drop_left]
 ·
  have e : (V.bytes b (V.zs b ++ p)).undo ⟨1, b, ((V.zs b).length : Int), n, r⟩ 0 = V := by
   unfold Vw.undo
   rw [if_neg (by show ¬ (1 : Int) = 0; decide), if_pos rfl]
   refine Vw.ext3 rfl ?_ rfl
   funext c
   show (if c = b then List.take (((V.zs b).length : Int).toNat + 0) (if b = b then V.zs b ++ p else V.zs b) else if c = b then _ else V.zs c) = _
   rw [if_pos rfl, Int.toNat_natCast, Nat.add_zero, List.take_left]
   by_cases e : c = b
   ·
    rw [if_pos e, e]
   ·
    rw [if_neg e, if_neg e]
  rw [e]
  exact h
theorem Chn.remove {R : Nat} {V : Vw} {cs : List Chg} {l : Fls} {os : List DCh} {sure : Fls} (h : Chn R V cs l os sure) (s : ByteArray) (b : Nat) (hs : V.ix s = some b) (z : Int) (n : ByteArray) (r : Option Nat) :
  Chn R (V.set s .none) (⟨2, b, z, n, r⟩ :: cs) (doF l ⟨2, s, ⟨#[]⟩, []⟩) (⟨2, s, ⟨#[]⟩, []⟩ :: os) sure := by
 have hnm := h.ab.nm s b hs
 have hu := used_without (n := s) h.ab.srt
 have h0 := h.used
 refine .cons (by rw [doF2]; exact h.ab.remove s) ?_ rfl ⟨rfl, by show 2 ≤ 3; omega, fun e => (by cases e), fun e => (by cases e), fun _ => ⟨hnm, ?_⟩, fun e => (by cases e)⟩ ?_
 ·
  rw [doF2]
  omega
 ·
  show (if s = s then _ else _) = _
  rw [if_pos rfl]
 ·
  have e : (V.set s .none).undo ⟨2, b, z, n, r⟩ 0 = V := by
   unfold Vw.undo
   rw [if_neg (by show ¬ (2 : Int) = 0; decide), if_neg (by show ¬ (2 : Int) = 1; decide), if_pos rfl]
   refine Vw.ext3 ?_ rfl rfl
   funext t
   show (if t = V.nm b then some b else if t = s then .none else V.ix t) = _
   rw [hnm]
   by_cases e : t = s
   ·
    rw [if_pos e, e, hs]
   ·
    rw [if_neg e, if_neg e]
  rw [e]
  exact h
theorem Chn.rename {R : Nat} {V : Vw} {cs : List Chg} {l : Fls} {os : List DCh} {sure : Fls} (h : Chn R V cs l os sure) (s t : ByteArray) (b : Nat) (hs : V.ix s = some b) (z : Int) :
  Chn R (((V.set s .none).name b t).set t (some b)) (⟨3, b, z, s, (V.set s .none).ix t⟩ :: cs) (doF l ⟨3, s, t, []⟩) (⟨3, s, t, []⟩ :: os) sure := by
 have hnm := h.ab.nm s b hs
 have hd : doF l ⟨3, s, t, []⟩ = withF (withoutF (withoutF l s) t) (t, V.zs b) := by
  rw [doF3, h.ab.has hs]
  rfl
 have hu := used_without (n := s) h.ab.srt
 have hu2 := used_without (n := t) (srt_without (n := s) h.ab.srt)
 have h0 := h.used
 rw [h.ab.has hs] at hu
 simp only [Option.getD_some] at hu
 have at1 : (V.set s .none).ix t = if t = s then .none else V.ix t := rfl
 refine .cons (h.ab.rename s t b hs) ?_ rfl ⟨rfl, Nat.le_refl _, fun e => (by cases e), fun e => (by cases e), fun e => (by cases e), fun _ => ⟨?_, rfl, fun hne => ?_, ?_⟩⟩ ?_
 ·
  rw [hd, used_with]
  show usedF (withoutF (withoutF l s) t) + (V.zs b).length ≤ R
  omega
 ·
  show (if t = t then _ else _) = _
  rw [if_pos rfl]
 ·
  show (if s = t then _ else if s = s then _ else _) = _
  rw [if_neg hne, if_pos rfl]
 ·
  show (V.set s .none).ix t = .none ∨ _
  rw [at1]
  by_cases e : t = s
  ·
   rw [if_pos e]; exact .inl rfl
  ·
   rw [if_neg e]
   cases ev : V.ix t with
   | none => exact .inl rfl
   | some r =>
    have hrb : r ≠ b := fun k => e (h.ab.inj ev (by rw [k]; exact hs))
    refine .inr ⟨r, rfl, hrb, ?_, fun k => e k.symm⟩
    show (if r = b then t else V.nm r) = t
    rw [if_neg hrb]
    exact h.ab.nm t r ev
 ·
  have e : (((V.set s .none).name b t).set t (some b)).undo ⟨3, b, z, s, (V.set s .none).ix t⟩ 0 = V := by
   unfold Vw.undo
   rw [if_neg (by show ¬ (3 : Int) = 0; decide), if_neg (by show ¬ (3 : Int) = 1; decide), if_neg (by show ¬ (3 : Int) = 2; decide)]
   have nb : (((V.set s .none).name b t).set t (some b)).nm b = t := by show (if b = b then t else V.nm b) = t; rw [if_pos rfl]
   have nms : (fun c => if c = b then s else if c = b then t else V.nm c) = V.nm := by
    funext c
    by_cases e : c = b
    ·
     rw [if_pos e, e, hnm]
    ·
     rw [if_neg e, if_neg e]
   simp only [nb]
   split
   ·
    rename_i hr
    have hr' : (if t = s then .none else V.ix t) = .none := hr
    refine Vw.ext3 ?_ rfl nms
    funext x
    show (if x = s then some b else if x = t then .none else if x = t then some b else if x = s then .none else V.ix x) = _
    by_cases e : x = s
    ·
     rw [if_pos e, e, hs]
    ·
     rw [if_neg e, if_neg e]
     by_cases k : x = t
     ·
      rw [if_pos k, k]
      rw [if_neg (by rw [← k]; exact e)] at hr'
      exact hr'.symm
     ·
      rw [if_neg k, if_neg k]
   ·
    rename_i r hr
    have hr' : (if t = s then .none else V.ix t) = some r := hr
    have hts : t ≠ s := fun k => by rw [if_pos k] at hr'; cases hr'
    rw [if_neg hts] at hr'
    have hrb : r ≠ b := fun k => hts (h.ab.inj hr' (by rw [k]; exact hs))
    have nr : (((V.set s .none).name b t).set t (some b)).nm r = t := by
     show (if r = b then t else V.nm r) = t
     rw [if_neg hrb]
     exact h.ab.nm t r hr'
    rw [nr]
    refine Vw.ext3 ?_ rfl nms
    funext x
    show (if x = t then some r else if x = s then some b else if x = t then .none else if x = t then some b else if x = s then .none else V.ix x) = _
    by_cases k : x = t
    ·
     rw [if_pos k, k, hr']
    ·
     rw [if_neg k]
     by_cases e : x = s
     ·
      rw [if_pos e, e, hs]
     ·
      rw [if_neg e, if_neg k, if_neg k, if_neg e]
  rw [e]
  exact h
end Go.Proofs.YtihbgigledmliaaGreat

