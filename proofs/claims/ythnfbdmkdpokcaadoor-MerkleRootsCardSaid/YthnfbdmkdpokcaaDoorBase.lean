/-
  Small words that all walks of this seat use: bytes that can be read, bytes that the call owns, what a call hands back.
-/
import Derived.Test.YthnfbdmkdpokcaaDoorProg
import Derived.WalkKit
import Derived.WalkSpells
import Derived.WalkLawsBesides
import Derived.Lib.Hide
import Derived.Laws.BitsAllLaws
import Derived.Laws.AppendOwnNone
import Derived.BigQuiet
import Derived.Deep.QuietTactic
namespace Go.Proofs.YthnfbdmkdpokcaaDoor
open Go.RowKit

theorem ret_int {k : IntKind} {a b : Int} (h : a = b) : Ending.returned (.int k a) = .returned (.int k b) := by rw [h]
theorem ret_bool {a b : Bool} (h : a = b) : Ending.returned (.bool a) = .returned (.bool b) := by rw [h]

theorem getD_at (zs : List Nat) (k : Nat) (h : k < zs.length) : zs.getD k 0 = zs[k] := by simp [h]

/-- the cells of a list of bytes -/
def cellsOf (zs : List Nat) : List Value := zs.map fun z : Nat => Value.int .u8 (z : Int)
theorem cellsOf_length (zs : List Nat) : (cellsOf zs).length = zs.length := by simp [cellsOf]
theorem cellsOf_append (a b : List Nat) : cellsOf (a ++ b) = cellsOf a ++ cellsOf b := by simp [cellsOf]
theorem cellsOf_get (zs : List Nat) (i : Nat) (h : i < zs.length) : (cellsOf zs)[i]? = some (.int .u8 ((zs.getD i 0 : Nat) : Int)) := by
  simp [cellsOf, List.getElem?_map, List.getElem?_eq_getElem h]
theorem cellsOf_one (zs : List Nat) : ∀ u ∈ cellsOf zs, u.oneCell' = true := by
  intro u hu
  simp only [cellsOf, List.mem_map] at hu
  obtain ⟨z, _, rfl⟩ := hu
  rfl

/-- the slice at a, of len bytes, reads as zs -/
def Rd (w : World) (a : Option Addr) (len : Nat) (zs : List Nat) : Prop :=
  zs.length = len ∧ (∀ z ∈ zs, z < 256) ∧ (len = 0 ∨ ∃ b off, a = some ⟨b, off, none⟩ ∧ b < w.heap.size ∧ ∀ i, i < len → w.cell? ⟨b, off + i, none⟩ = some (.int .u8 ((zs.getD i 0 : Nat) : Int)))

theorem Rd.below {w w' : World} {a : Option Addr} {len : Nat} {zs : List Nat} (h : Rd w a len zs) (hb : Below w.heap.size w w') : Rd w' a len zs := by
  obtain ⟨h1, h2, h3⟩ := h
  refine ⟨h1, h2, ?_⟩
  rcases h3 with h0 | ⟨b, off, ha, hlt, hc⟩
  · exact .inl h0
  · exact .inr ⟨b, off, ha, Nat.lt_of_lt_of_le hlt hb.size, fun i hi => (hb.cell (p := ⟨b, off + i, none⟩) hlt).trans (hc i hi)⟩
theorem Rd.drewN {w : World} {n : Nat} {a : Option Addr} {len : Nat} {zs : List Nat} (h : Rd w a len zs) : Rd (w.drewN n) a len zs := h
theorem Rd.drew {w : World} {a : Option Addr} {len : Nat} {zs : List Nat} (h : Rd w a len zs) : Rd w.drew a len zs := h

/-- a row of bytes that the call owns, from block B on -/
abbrev Own (w : World) (B : Nat) (v : Value) (zs : List Nat) : Prop := w.ownsRow B 5 1 v zs.length (cellsOf zs)

theorem Own.rd {w : World} {B : Nat} {v : Value} {zs : List Nat} (h : Own w B v zs) (hz : ∀ z ∈ zs, z < 256) : ∃ a cap, v = .slice a zs.length cap ∧ zs.length ≤ cap ∧ cap ≤ 9223372036854775807 ∧ Rd w a zs.length zs := by
  have h' := h
  rcases h.2 with ⟨rfl, hn⟩ | ⟨g, cap, cur, rfl, hb, hg, hnc, hcm, hcs, htake⟩
  · refine ⟨none, 0, by rw [hn], by omega, by omega, rfl, hz, .inl hn⟩
  · refine ⟨_, cap, rfl, hnc, hcm, rfl, hz, .inr ⟨g, 0, rfl, (Array.getElem?_eq_some_iff.1 hg).1, fun i hi => ?_⟩⟩
    rw [h'.cellAt (0 + i) (by omega), Nat.zero_add]
    exact cellsOf_get zs i hi

/-- what hands back new bytes: they are owned, nothing that was there has turned -/
def RetB (B : Nat) (w : World) (zs : List Nat) (e : Ending) (w' : World) : Prop :=
  ∃ v, e = .returned v ∧ Own w' B v zs ∧ Below B w w'
/-- what hands back new bytes, a number and an error -/
def RetB3 (k1 k2 : IntKind) (B : Nat) (w : World) (zs : List Nat) (n1 n2 : Int) (e : Ending) (w' : World) : Prop :=
  ∃ v, e = .returned (.tuple #[v, .int k1 n1, .int k2 n2]) ∧ Own w' B v zs ∧ Below B w w'
/-- what computes alone, but draws -/
def RetD (v : Value) (w : World) (e : Ending) (w' : World) : Prop := e = .returned v ∧ ∃ n, w' = w.drewN n

theorem byteInfo : (Tryd.prog.info? 5).map (fun i => (i.zero, i.size, i.bytes)) = some (some (.int .u8 0), 1, 1) := by kernel_rfl

theorem take_snoc (zs : List Nat) (k : Nat) (h : k < zs.length) : zs.take (k + 1) = zs.take k ++ [zs[k]] := List.take_succ_eq_append_getElem h

/-- append(s, x) of one byte that the statement itself has laid -/
theorem wpList_push {w : World} {ops : Array Oper} {rest : List Oper} {o : Oper} {a : Act} {Q : Exit → Act → World → Prop} (hgd : o.guard = none) (s x : Operand)
    (ho : o.op = .call { callee := .builtin .append, args := #[s, x], argTypes := #[23, 23] })
    (B : Nat) (v : Value) (zs : List Nat) (z : Nat) (y : Int) (hy : y = (z : Int)) (hs : a.eval s = v) (hown : Own w B v zs) (hB : B ≤ w.heap.size) (hx : a.eval x = .slice (some ⟨w.heap.size, 0, none⟩) 1 1)
    (hlen : zs.length + 1 ≤ 140737488355328)
    (h : ∀ v' w', Own w' B v' (zs ++ [z]) → Below B w w' → wpList Tryd.prog ops Q rest (a.put o.dst v') w') :
    wpList Tryd.prog ops Q (o :: rest) a (w.alloc (.cells #[.int .u8 y] 5)) := by
  subst hy
  obtain ⟨i0, hi, hz0, hz1, hz2⟩ := info_parts byteInfo
  refine wpList_append_own _ hgd s x 23 ho B 5 i0 (.int .u8 0) 1 1 Tryd.underlying23 hi hz0 hz1 hz2 rfl (by decide) v zs.length (cellsOf zs) hs (hown.alloc _) ⟨w.heap.size, 0, none⟩ 1 1 (cellsOf [z]) hx rfl ?_ (cellsOf_one _) (by unfold maxLen; omega) (by omega) (by simp; omega) ?_
  · intro j u hj
    match j, hj with
    | 0, hj => simp [cellsOf] at hj; subst hj; simp [Addr.add]
    | j + 1, hj => simp [cellsOf] at hj
  · intro v' w' h1 h2 _
    refine h v' w' ?_ ?_
    · have e : (zs ++ [z]).length = zs.length + 1 := by simp
      unfold Own
      rw [e, cellsOf_append]
      exact h1
    · refine ((Below.refl B w).alloc hB _).grown h2 (by simp; omega) fun k hk => (hown.lt k hk).1

/-- append(s, p...) of bytes that can be read -/
theorem wpList_cat {w : World} {ops : Array Oper} {rest : List Oper} {o : Oper} {a : Act} {Q : Exit → Act → World → Prop} (hgd : o.guard = none) (s x : Operand)
    (ho : o.op = .call { callee := .builtin .append, args := #[s, x], argTypes := #[23, 23] })
    (B : Nat) (v : Value) (zs ys : List Nat) (hs : a.eval s = v) (hown : Own w B v zs) (hB : B ≤ w.heap.size) (ad : Option Addr) (len cap : Nat) (hx : a.eval x = .slice ad len cap)
    (hrd : Rd w ad len ys) (hnil : ad = none → cap = 0)
    (hlen : zs.length + ys.length ≤ 140737488355328)
    (h : ∀ v' w', Own w' B v' (zs ++ ys) → Below B w w' → wpList Tryd.prog ops Q rest (a.put o.dst v') w') :
    wpList Tryd.prog ops Q (o :: rest) a w := by
  obtain ⟨i0, hi, hz0, hz1, hz2⟩ := info_parts byteInfo
  obtain ⟨hl, hz, hc⟩ := hrd
  cases ad with
  | none =>
    obtain rfl := hnil rfl
    have h0 : len = 0 := by
      rcases hc with h0 | ⟨b, off, hb, _⟩
      · exact h0
      · cases hb
    subst h0
    obtain rfl : ys = [] := List.eq_nil_of_length_eq_zero hl
    refine wpList_append_own_none hgd s x 23 ho B 5 i0 1 Tryd.underlying23 hi v zs.length (cellsOf zs) hs hown hx ?_
    exact h v w (by rw [List.append_nil]; exact hown) (Below.refl _ _)
  | some ad =>
    refine wpList_append_own _ hgd s x 23 ho B 5 i0 (.int .u8 0) 1 1 Tryd.underlying23 hi hz0 hz1 hz2 rfl (by decide) v zs.length (cellsOf zs) hs hown ad len cap (cellsOf ys) hx (by rw [cellsOf_length, hl, Nat.mul_one]) ?_ (cellsOf_one _) (by unfold maxLen; omega) (by omega) hB ?_
    · intro j u hj
      have hjl : j < ys.length := by
        have := (List.getElem?_eq_some_iff.1 hj).1
        rwa [cellsOf_length] at this
      rw [cellsOf_get ys j hjl] at hj
      cases hj
      rcases hc with h0 | ⟨b, off, hb, _, hcell⟩
      · omega
      · cases hb
        have hcj := hcell j (by omega)
        rw [show Addr.add ⟨b, off, none⟩ j = ⟨b, off + j, none⟩ by simp [Addr.add]]
        exact hcj
    · intro v' w' h1 h2 _
      refine h v' w' ?_ ?_
      · unfold Own
        rw [List.length_append, cellsOf_append, hl]
        exact h1
      · exact (Below.refl B w).grown h2 hB fun k hk => (hown.lt k hk).1

/-- a text of such bytes -/
def str (zs : List Nat) : ByteArray := ⟨(zs.map UInt8.ofNat).toArray⟩
theorem foldl_push (ns : List Int) (s : ByteArray) : ns.foldl (fun r n => r.push (UInt8.ofNat n.toNat)) s = ⟨s.data ++ (ns.map fun n => UInt8.ofNat n.toNat).toArray⟩ := by
  induction ns generalizing s with
  | nil => simp
  | cons n ns ih => rw [List.foldl_cons, ih]; simp [ByteArray.push]
theorem run_str {w : World} {ad : Option Addr} {len cap : Nat} {zs : List Nat} (h : Rd w ad len zs) : (convert 23 9 (.slice ad len cap)).run Tryd.prog w = .ok (.string (str zs)) w := by
  obtain ⟨hl, hz, hc⟩ := h
  rw [run_convert_bytes_string w 23 9 5 ad len cap Tryd.underlying23 Tryd.underlying5 Tryd.underlying9]
  cases ad with
  | none =>
    have h0 : len = 0 := by
      rcases hc with h0 | ⟨b, off, hb, _⟩
      · exact h0
      · cases hb
    subst h0
    obtain rfl : zs = [] := List.eq_nil_of_length_eq_zero hl
    simp [Conv.bytesToString, str]
    rfl
  | some ad =>
    have hr := run_loadCells_list (P := Tryd.prog) (w := w) ad ((zs.map fun z : Nat => (z : Int)).map (Value.int .u8)) ?_
    · have e : ((zs.map fun z : Nat => (z : Int)).map (Value.int .u8)).length = len := by simp [hl]
      rw [e] at hr
      rw [run_bytesToString w ad len cap _ hr, foldl_push]
      unfold str
      congr 3
      simp [ByteArray.empty, ByteArray.emptyWithCapacity, - ByteArray.emptyWithCapacity_eq_empty]
      rfl
    · intro j v hj
      have hjl : j < zs.length := by
        have := (List.getElem?_eq_some_iff.1 hj).1
        simpa using this
      rcases hc with h0 | ⟨b, off, hb, _, hcell⟩
      · omega
      · cases hb
        have hcj := hcell j (by omega)
        rw [show Addr.add ⟨b, off, none⟩ j = ⟨b, off + j, none⟩ by simp [Addr.add], hcj]
        simp [hjl] at hj
        rw [← hj, getD_at zs j hjl]
/-- string(p) -/
theorem wpList_str {w : World} {ops : Array Oper} {rest : List Oper} {o : Oper} {a : Act} {Q : Exit → Act → World → Prop} (hgd : o.guard = none) (x : Operand)
    (ho : o.op = .convert 23 9 x) (ad : Option Addr) (len cap : Nat) (zs : List Nat) (hx : a.eval x = .slice ad len cap) (hrd : Rd w ad len zs)
    (h : wpList Tryd.prog ops Q rest (a.put o.dst (.string (str zs))) w) : wpList Tryd.prog ops Q (o :: rest) a w := by
  refine wpList_plain hgd fun K hK => ?_
  have hrun := run_str (cap := cap) hrd
  unfold Oper.wp
  simp [execOp, ho, hx, hrun, Result.andThen]
  exact hK _ _ h

/-- append(s, x, y) of two bytes that the statement itself has laid -/
theorem wpList_push2 {w : World} {ops : Array Oper} {rest : List Oper} {o : Oper} {a : Act} {Q : Exit → Act → World → Prop} (hgd : o.guard = none) (s x : Operand)
    (ho : o.op = .call { callee := .builtin .append, args := #[s, x], argTypes := #[23, 23] })
    (B : Nat) (v : Value) (zs : List Nat) (z1 z2 : Nat) (y1 y2 : Int) (hy1 : y1 = (z1 : Int)) (hy2 : y2 = (z2 : Int)) (hs : a.eval s = v) (hown : Own w B v zs) (hB : B ≤ w.heap.size) (hx : a.eval x = .slice (some ⟨w.heap.size, 0, none⟩) 2 2)
    (hlen : zs.length + 2 ≤ 140737488355328)
    (h : ∀ v' w', Own w' B v' (zs ++ [z1, z2]) → Below B w w' → wpList Tryd.prog ops Q rest (a.put o.dst v') w') :
    wpList Tryd.prog ops Q (o :: rest) a (w.alloc (.cells #[.int .u8 y1, .int .u8 y2] 5)) := by
  subst hy1 hy2
  obtain ⟨i0, hi, hz0, hz1, hz2⟩ := info_parts byteInfo
  refine wpList_append_own _ hgd s x 23 ho B 5 i0 (.int .u8 0) 1 1 Tryd.underlying23 hi hz0 hz1 hz2 rfl (by decide) v zs.length (cellsOf zs) hs (hown.alloc _) ⟨w.heap.size, 0, none⟩ 2 2 (cellsOf [z1, z2]) hx rfl ?_ (cellsOf_one _) (by unfold maxLen; omega) (by omega) (by simp; omega) ?_
  · intro j u hj
    match j, hj with
    | 0, hj => simp [cellsOf] at hj; subst hj; simp [Addr.add]
    | 1, hj => simp [cellsOf] at hj; subst hj; simp [Addr.add]
    | j + 2, hj => simp [cellsOf] at hj
  · intro v' w' h1 h2 _
    refine h v' w' ?_ ?_
    · have e : (zs ++ [z1, z2]).length = zs.length + 2 := by simp
      unfold Own
      rw [e, cellsOf_append]
      exact h1
    · refine ((Below.refl B w).alloc hB _).grown h2 (by simp; omega) fun k hk => (hown.lt k hk).1

/-- the same as one step of a region that draws its order -/
theorem step_push2 {W : World} {ops : Array Oper} {o : Oper} {a : Act} {K : Act → World → Prop} {Q : Exit → Act → World → Prop} {E : Prop} (hgd : o.guard = none) (s x : Operand)
    (ho : o.op = .call { callee := .builtin .append, args := #[s, x], argTypes := #[23, 23] })
    (B : Nat) (v : Value) (zs : List Nat) (z1 z2 : Nat) (g : Nat) (hs : a.eval s = v) (hown : Own W B v zs) (hB : B ≤ W.heap.size) (hx : a.eval x = .slice (some ⟨g, 0, none⟩) 2 2)
    (hc1 : W.cell? ⟨g, 0, none⟩ = some (.int .u8 (z1 : Int))) (hc2 : W.cell? ⟨g, 1, none⟩ = some (.int .u8 (z2 : Int)))
    (hlen : zs.length + 2 ≤ 140737488355328) (w0 : World) (hb : Below B w0 W)
    (h : ∀ v' w', Own w' B v' (zs ++ [z1, z2]) → Below B w0 w' → K (a.put o.dst v') w') :
    if Region.wanted o (yielded ops a.tmps) = true then Oper.wp Tryd.prog o a W K Q else E := by
  have hw : Region.wanted o (yielded ops a.tmps) = true := by simp [Region.wanted, hgd]
  rw [if_pos hw]
  obtain ⟨i0, hi, hz0, hz1, hz2⟩ := info_parts byteInfo
  refine wp_append_own W s x 23 ho B 5 i0 (.int .u8 0) 1 1 Tryd.underlying23 hi hz0 hz1 hz2 rfl (by decide) v zs.length (cellsOf zs) hs hown ⟨g, 0, none⟩ 2 2 (cellsOf [z1, z2]) hx rfl ?_ (cellsOf_one _) (by unfold maxLen; omega) (by omega) hB ?_
  · intro j u hj
    match j, hj with
    | 0, hj => simp [cellsOf] at hj; subst hj; exact hc1
    | 1, hj => simp [cellsOf] at hj; subst hj; exact hc2
    | j + 2, hj => simp [cellsOf] at hj
  · intro v' w' h1 h2 _
    refine h v' w' ?_ ?_
    · have e : (zs ++ [z1, z2]).length = zs.length + 2 := by simp
      unfold Own
      rw [e, cellsOf_append]
      exact h1
    · exact hb.grown h2 hB fun k hk => (hown.lt k hk).1

/-- a block that has just been laid reads as what was laid -/
theorem rd_lit (w : World) (zs : List Nat) (fr : Nat × Nat) (hz : ∀ z ∈ zs, z < 256) : Rd (w.alloc (.cells (cellsOf zs).toArray 5 fr)) (some ⟨w.heap.size, 0, none⟩) zs.length zs := by
  refine ⟨rfl, hz, .inr ⟨w.heap.size, 0, rfl, by simp, fun i hi => ?_⟩⟩
  rw [Nat.zero_add, cell_of_row (w.alloc (.cells (cellsOf zs).toArray 5 fr)) w.heap.size i (cellsOf zs).toArray 5 fr (heap_alloc_new w _)]
  rw [List.getElem?_toArray]
  exact cellsOf_get zs i hi

/-- new bytes, their slice written out: L bytes at a -/
def RetR (B : Nat) (w : World) (zs : List Nat) (e : Ending) (w' : World) : Prop :=
  ∃ a L cap, e = .returned (.slice a L cap) ∧ zs.length = L ∧ L ≤ cap ∧ cap ≤ 9223372036854775807 ∧ (a = none → cap = 0) ∧ Rd w' a L zs ∧ Own w' B (.slice a L cap) zs ∧ Below B w w'
theorem Own.form {w : World} {B : Nat} {v : Value} {zs : List Nat} (h : Own w B v zs) (hz : ∀ z ∈ zs, z < 256) :
    ∃ a L cap, v = .slice a L cap ∧ zs.length = L ∧ L ≤ cap ∧ cap ≤ 9223372036854775807 ∧ (a = none → cap = 0) ∧ Rd w a L zs ∧ Own w B (.slice a L cap) zs := by
  have h' := h
  obtain ⟨a, cap, rfl, h1, h2, h3⟩ := h.rd hz
  refine ⟨a, zs.length, cap, rfl, rfl, h1, h2, ?_, h3, h'⟩
  rintro rfl
  rcases h'.2 with ⟨h4, _⟩ | ⟨g, c, cur, h4, _⟩
  · simp at h4; omega
  · simp at h4
theorem RetB.form {B : Nat} {w : World} {zs : List Nat} (hz : ∀ z ∈ zs, z < 256) (e : Ending) (w' : World) (h : RetB B w zs e w') : RetR B w zs e w' := by
  obtain ⟨v, rfl, ho, hb⟩ := h
  obtain ⟨a, L, cap, rfl, h1, h2, h3, h4, h5, h6⟩ := ho.form hz
  exact ⟨a, L, cap, rfl, h1, h2, h3, h4, h5, h6, hb⟩
theorem Rd.take {w : World} {a : Option Addr} {len : Nat} {zs : List Nat} (h : Rd w a len zs) (k : Nat) (hk : k ≤ len) : Rd w a k (zs.take k) := by
  obtain ⟨h1, h2, h3⟩ := h
  refine ⟨by rw [List.length_take]; omega, fun z hz => h2 z (List.mem_of_mem_take hz), ?_⟩
  by_cases h0 : k = 0
  · exact .inl h0
  · rcases h3 with h3 | ⟨b, off, ha, hb, hc⟩
    · omega
    · refine .inr ⟨b, off, ha, hb, fun i hi => ?_⟩
      rw [hc i (by omega)]
      simp [hi]
theorem Rd.drop {w : World} {b off len : Nat} {zs : List Nat} (h : Rd w (some ⟨b, off, none⟩) len zs) (k : Nat) : Rd w (some ⟨b, off + k, none⟩) (len - k) (zs.drop k) := by
  obtain ⟨h1, h2, h3⟩ := h
  refine ⟨by rw [List.length_drop]; omega, fun z hz => h2 z (List.mem_of_mem_drop hz), ?_⟩
  by_cases h0 : len - k = 0
  · exact .inl h0
  · rcases h3 with h3 | ⟨b', off', ha, hb, hc⟩
    · omega
    · simp only [Option.some.injEq, Addr.mk.injEq, and_true] at ha
      obtain ⟨rfl, rfl⟩ := ha
      refine .inr ⟨b, off + k, rfl, hb, fun i hi => ?_⟩
      rw [Nat.add_assoc, hc (k + i) (by omega)]
      simp
/-- append(s, p...), the new slice written out -/
theorem wpList_catR {w : World} {ops : Array Oper} {rest : List Oper} {o : Oper} {a : Act} {Q : Exit → Act → World → Prop} (hgd : o.guard = none) (s x : Operand)
    (ho : o.op = .call { callee := .builtin .append, args := #[s, x], argTypes := #[23, 23] })
    (B : Nat) (v : Value) (zs ys : List Nat) (hs : a.eval s = v) (hown : Own w B v zs) (hB : B ≤ w.heap.size) (ad : Option Addr) (len cap : Nat) (hx : a.eval x = .slice ad len cap)
    (hrd : Rd w ad len ys) (hnil : ad = none → cap = 0) (hz : ∀ z ∈ zs, z < 256)
    (hlen : zs.length + ys.length ≤ 140737488355328)
    (h : ∀ a' L' cap' w', (zs ++ ys).length = L' → L' ≤ cap' → cap' ≤ 9223372036854775807 → (a' = none → cap' = 0) → Rd w' a' L' (zs ++ ys) → Own w' B (.slice a' L' cap') (zs ++ ys) → Below B w w' → wpList Tryd.prog ops Q rest (a.put o.dst (.slice a' L' cap')) w') :
    wpList Tryd.prog ops Q (o :: rest) a w := by
  refine wpList_cat hgd s x ho B v zs ys hs hown hB ad len cap hx hrd hnil hlen fun v' w' h1 h2 => ?_
  obtain ⟨a', L', cap', rfl, g1, g2, g3, g4, g5, g6⟩ := h1.form (by
    intro z hm
    rcases List.mem_append.1 hm with h | h
    · exact hz z h
    · exact hrd.2.1 z h)
  exact h a' L' cap' w' g1 g2 g3 g4 g5 g6 h2

theorem drewN_add (w : World) (a b : Nat) : (w.drewN a).drewN b = w.drewN (a + b) := by
  simp [World.drewN, Nat.add_assoc]
theorem below_drewN' (B : Nat) (w : World) (n : Nat) : Below B w (w.drewN n) := ⟨rfl, rfl, rfl, Nat.le_refl _, fun _ _ => rfl⟩

theorem Own.nil (w : World) (B : Nat) : Own w B (.slice none 0 0) [] := World.ownsRow_nil _ _ _ _
end Go.Proofs.YthnfbdmkdpokcaaDoor
