/-
  Small words that all walks of this seat use: bytes that can be read, bytes that the call owns, what a call hands back. Steps of a region that draws its order: loads and stores of whole arrays, calls by their contracts. Steps of a region that draws its order, under a condition that is kept: loads are taken first. Words turned to the right, on numbers: the document's way, bit by bit, and the program's, by two shifts, give the same. The walks over octet.Rot and the document's Rot: both give 'Rotm.rot' at the number of bits modulo 32. Numbers and their bytes, on plain lists. The walks over Get, the program's and the document's, and Word. The walks over Put, the program's and the document's. The walks over Hex, the program's and the document's: two digits for each byte. The walk over the document's Twin: the same bytes once more, in new memory. The walk over the document's Same: are two lists of bytes the same?. What the bound on the arguments' bulk gives: how long a list or a text among them may be. What the arguments of a law give its walk: bytes that came in, and their bounds.
-/
import Derived.Test.YtpppffgchgcghaaProg
import Derived.WalkKit
import Derived.WalkSpells
import Derived.WalkLawsBesides
import Derived.Lib.Hide
import Derived.Laws.BitsAllLaws
import Derived.Laws.AppendOwnNone
import Derived.BigQuiet
import Derived.Deep.QuietTactic
import Derived.Deep.MidRow
import Derived.Deep.RegionWith
import Derived.OrdersHeld
import Derived.Deep.RegionHeld
import Derived.RowKit
import Derived.Deep.RegionHeld3
import Derived.Deep.DrawnRows
import Derived.Test.YtpppffgchgcghaaRows
import Derived.ProofKit
import Derived.OpenShut
import Derived.ShutString
import Derived.ChangeOld
import Derived.SizedLaws
namespace Go.Proofs.Ytpppffgchgcghaa
open Go.RowKit

theorem ret_int {k : IntKind} {a b : Int} (h : a = b) : Ending.returned (.int k a) = .returned (.int k b) := by rw [h]
theorem ret_bool {a b : Bool} (h : a = b) : Ending.returned (.bool a) = .returned (.bool b) := by rw [h]

theorem getD_at (zs : List Nat) (k : Nat) (h : k < zs.length) : zs.getD k 0 = zs[k] := by simp [h]

/-- the cells of a list of bytes -/
def cellsOf (zs : List Nat) : List Value := zs.map fun z : Nat => Value.int .u8 (z : Int)
theorem cellsOf_length (zs : List Nat) : (cellsOf zs).length = zs.length := by simp [cellsOf]
theorem cellsOf_append (a b : List Nat) : cellsOf (a ++ b) = cellsOf a ++ cellsOf b := by simp [cellsOf]
theorem cellsOf_get (zs : List Nat) (i : Nat) (h : i < zs.length) : (cellsOf zs)[i]? = some (.int .u8 ((zs.getD i 0 : Nat) : Int)) := by
  simp [cellsOf, List.getElem?_map, List.getElem?_eq_getElem h]
theorem cellsOf_one (zs : List Nat) : ∀ u ∈ cellsOf zs, u.oneCell' = true := by
  intro u hu
  simp only [cellsOf, List.mem_map] at hu
  obtain ⟨z, _, rfl⟩ := hu
  rfl

/-- the slice at a, of len bytes, reads as zs -/
def Rd (w : World) (a : Option Addr) (len : Nat) (zs : List Nat) : Prop :=
  zs.length = len ∧ (∀ z ∈ zs, z < 256) ∧ (len = 0 ∨ ∃ b off, a = some ⟨b, off, none⟩ ∧ b < w.heap.size ∧ ∀ i, i < len → w.cell? ⟨b, off + i, none⟩ = some (.int .u8 ((zs.getD i 0 : Nat) : Int)))

theorem Rd.below {w w' : World} {a : Option Addr} {len : Nat} {zs : List Nat} (h : Rd w a len zs) (hb : Below w.heap.size w w') : Rd w' a len zs := by
  obtain ⟨h1, h2, h3⟩ := h
  refine ⟨h1, h2, ?_⟩
  rcases h3 with h0 | ⟨b, off, ha, hlt, hc⟩
  · exact .inl h0
  · exact .inr ⟨b, off, ha, Nat.lt_of_lt_of_le hlt hb.size, fun i hi => (hb.cell (p := ⟨b, off + i, none⟩) hlt).trans (hc i hi)⟩
theorem Rd.drewN {w : World} {n : Nat} {a : Option Addr} {len : Nat} {zs : List Nat} (h : Rd w a len zs) : Rd (w.drewN n) a len zs := h
theorem Rd.drew {w : World} {a : Option Addr} {len : Nat} {zs : List Nat} (h : Rd w a len zs) : Rd w.drew a len zs := h

/-- a row of bytes that the call owns, from block B on -/
abbrev Own (w : World) (B : Nat) (v : Value) (zs : List Nat) : Prop := w.ownsRow B 5 1 v zs.length (cellsOf zs)

theorem Own.rd {w : World} {B : Nat} {v : Value} {zs : List Nat} (h : Own w B v zs) (hz : ∀ z ∈ zs, z < 256) : ∃ a cap, v = .slice a zs.length cap ∧ zs.length ≤ cap ∧ cap ≤ 9223372036854775807 ∧ Rd w a zs.length zs := by
  have h' := h
  rcases h.2 with ⟨rfl, hn⟩ | ⟨g, cap, cur, rfl, hb, hg, hnc, hcm, hcs, htake⟩
  · refine ⟨none, 0, by rw [hn], by omega, by omega, rfl, hz, .inl hn⟩
  · refine ⟨_, cap, rfl, hnc, hcm, rfl, hz, .inr ⟨g, 0, rfl, (Array.getElem?_eq_some_iff.1 hg).1, fun i hi => ?_⟩⟩
    rw [h'.cellAt (0 + i) (by omega), Nat.zero_add]
    exact cellsOf_get zs i hi

/-- what hands back new bytes: they are owned, nothing that was there has turned -/
def RetB (B : Nat) (w : World) (zs : List Nat) (e : Ending) (w' : World) : Prop :=
  ∃ v, e = .returned v ∧ Own w' B v zs ∧ Below B w w'
/-- what hands back new bytes, a number and an error -/
def RetB3 (k1 k2 : IntKind) (B : Nat) (w : World) (zs : List Nat) (n1 n2 : Int) (e : Ending) (w' : World) : Prop :=
  ∃ v, e = .returned (.tuple #[v, .int k1 n1, .int k2 n2]) ∧ Own w' B v zs ∧ Below B w w'
/-- what computes alone, but draws -/
def RetD (v : Value) (w : World) (e : Ending) (w' : World) : Prop := e = .returned v ∧ ∃ n, w' = w.drewN n

theorem byteInfo : (Try.prog.info? 5).map (fun i => (i.zero, i.size, i.bytes)) = some (some (.int .u8 0), 1, 1) := by kernel_rfl

theorem take_snoc (zs : List Nat) (k : Nat) (h : k < zs.length) : zs.take (k + 1) = zs.take k ++ [zs[k]] := List.take_succ_eq_append_getElem h

/-- append(s, x) of one byte that the statement itself has laid -/
theorem wpList_push {w : World} {ops : Array Oper} {rest : List Oper} {o : Oper} {a : Act} {Q : Exit → Act → World → Prop} (hgd : o.guard = none) (s x : Operand)
    (ho : o.op = .call { callee := .builtin .append, args := #[s, x], argTypes := #[33, 33] })
    (B : Nat) (v : Value) (zs : List Nat) (z : Nat) (y : Int) (hy : y = (z : Int)) (hs : a.eval s = v) (hown : Own w B v zs) (hB : B ≤ w.heap.size) (hx : a.eval x = .slice (some ⟨w.heap.size, 0, none⟩) 1 1)
    (hlen : zs.length + 1 ≤ 140737488355328)
    (h : ∀ v' w', Own w' B v' (zs ++ [z]) → Below B w w' → wpList Try.prog ops Q rest (a.put o.dst v') w') :
    wpList Try.prog ops Q (o :: rest) a (w.alloc (.cells #[.int .u8 y] 5)) := by
  subst hy
  obtain ⟨i0, hi, hz0, hz1, hz2⟩ := info_parts byteInfo
  refine wpList_append_own _ hgd s x 33 ho B 5 i0 (.int .u8 0) 1 1 Try.underlying33 hi hz0 hz1 hz2 rfl (by decide) v zs.length (cellsOf zs) hs (hown.alloc _) ⟨w.heap.size, 0, none⟩ 1 1 (cellsOf [z]) hx rfl ?_ (cellsOf_one _) (by unfold maxLen; omega) (by omega) (by simp; omega) ?_
  · intro j u hj
    match j, hj with
    | 0, hj => simp [cellsOf] at hj; subst hj; simp [Addr.add]
    | j + 1, hj => simp [cellsOf] at hj
  · intro v' w' h1 h2 _
    refine h v' w' ?_ ?_
    · have e : (zs ++ [z]).length = zs.length + 1 := by simp
      unfold Own
      rw [e, cellsOf_append]
      exact h1
    · refine ((Below.refl B w).alloc hB _).grown h2 (by simp; omega) fun k hk => (hown.lt k hk).1

/-- append(s, p...) of bytes that can be read -/
theorem wpList_cat {w : World} {ops : Array Oper} {rest : List Oper} {o : Oper} {a : Act} {Q : Exit → Act → World → Prop} (hgd : o.guard = none) (s x : Operand)
    (ho : o.op = .call { callee := .builtin .append, args := #[s, x], argTypes := #[33, 33] })
    (B : Nat) (v : Value) (zs ys : List Nat) (hs : a.eval s = v) (hown : Own w B v zs) (hB : B ≤ w.heap.size) (ad : Option Addr) (len cap : Nat) (hx : a.eval x = .slice ad len cap)
    (hrd : Rd w ad len ys) (hnil : ad = none → cap = 0)
    (hlen : zs.length + ys.length ≤ 140737488355328)
    (h : ∀ v' w', Own w' B v' (zs ++ ys) → Below B w w' → wpList Try.prog ops Q rest (a.put o.dst v') w') :
    wpList Try.prog ops Q (o :: rest) a w := by
  obtain ⟨i0, hi, hz0, hz1, hz2⟩ := info_parts byteInfo
  obtain ⟨hl, hz, hc⟩ := hrd
  cases ad with
  | none =>
    obtain rfl := hnil rfl
    have h0 : len = 0 := by
      rcases hc with h0 | ⟨b, off, hb, _⟩
      · exact h0
      · cases hb
    subst h0
    obtain rfl : ys = [] := List.eq_nil_of_length_eq_zero hl
    refine wpList_append_own_none hgd s x 33 ho B 5 i0 1 Try.underlying33 hi v zs.length (cellsOf zs) hs hown hx ?_
    exact h v w (by rw [List.append_nil]; exact hown) (Below.refl _ _)
  | some ad =>
    refine wpList_append_own _ hgd s x 33 ho B 5 i0 (.int .u8 0) 1 1 Try.underlying33 hi hz0 hz1 hz2 rfl (by decide) v zs.length (cellsOf zs) hs hown ad len cap (cellsOf ys) hx (by rw [cellsOf_length, hl, Nat.mul_one]) ?_ (cellsOf_one _) (by unfold maxLen; omega) (by omega) hB ?_
    · intro j u hj
      have hjl : j < ys.length := by
        have := (List.getElem?_eq_some_iff.1 hj).1
        rwa [cellsOf_length] at this
      rw [cellsOf_get ys j hjl] at hj
      cases hj
      rcases hc with h0 | ⟨b, off, hb, _, hcell⟩
      · omega
      · cases hb
        have hcj := hcell j (by omega)
        rw [show Addr.add ⟨b, off, none⟩ j = ⟨b, off + j, none⟩ by simp [Addr.add]]
        exact hcj
    · intro v' w' h1 h2 _
      refine h v' w' ?_ ?_
      · unfold Own
        rw [List.length_append, cellsOf_append, hl]
        exact h1
      · exact (Below.refl B w).grown h2 hB fun k hk => (hown.lt k hk).1

/-- a text of such bytes -/
def str (zs : List Nat) : ByteArray := ⟨(zs.map UInt8.ofNat).toArray⟩
theorem foldl_push (ns : List Int) (s : ByteArray) : ns.foldl (fun r n => r.push (UInt8.ofNat n.toNat)) s = ⟨s.data ++ (ns.map fun n => UInt8.ofNat n.toNat).toArray⟩ := by
  induction ns generalizing s with
  | nil => simp
  | cons n ns ih => rw [List.foldl_cons, ih]; simp [ByteArray.push]
theorem run_str {w : World} {ad : Option Addr} {len cap : Nat} {zs : List Nat} (h : Rd w ad len zs) : (convert 33 9 (.slice ad len cap)).run Try.prog w = .ok (.string (str zs)) w := by
  obtain ⟨hl, hz, hc⟩ := h
  rw [run_convert_bytes_string w 33 9 5 ad len cap Try.underlying33 Try.underlying5 Try.underlying9]
  cases ad with
  | none =>
    have h0 : len = 0 := by
      rcases hc with h0 | ⟨b, off, hb, _⟩
      · exact h0
      · cases hb
    subst h0
    obtain rfl : zs = [] := List.eq_nil_of_length_eq_zero hl
    simp [Conv.bytesToString, str]
    rfl
  | some ad =>
    have hr := run_loadCells_list (P := Try.prog) (w := w) ad ((zs.map fun z : Nat => (z : Int)).map (Value.int .u8)) ?_
    · have e : ((zs.map fun z : Nat => (z : Int)).map (Value.int .u8)).length = len := by simp [hl]
      rw [e] at hr
      rw [run_bytesToString w ad len cap _ hr, foldl_push]
      unfold str
      congr 3
      simp [ByteArray.empty, ByteArray.emptyWithCapacity, - ByteArray.emptyWithCapacity_eq_empty]
      rfl
    · intro j v hj
      have hjl : j < zs.length := by
        have := (List.getElem?_eq_some_iff.1 hj).1
        simpa using this
      rcases hc with h0 | ⟨b, off, hb, _, hcell⟩
      · omega
      · cases hb
        have hcj := hcell j (by omega)
        rw [show Addr.add ⟨b, off, none⟩ j = ⟨b, off + j, none⟩ by simp [Addr.add], hcj]
        simp [hjl] at hj
        rw [← hj, getD_at zs j hjl]
/-- string(p) -/
theorem wpList_str {w : World} {ops : Array Oper} {rest : List Oper} {o : Oper} {a : Act} {Q : Exit → Act → World → Prop} (hgd : o.guard = none) (x : Operand)
    (ho : o.op = .convert 33 9 x) (ad : Option Addr) (len cap : Nat) (zs : List Nat) (hx : a.eval x = .slice ad len cap) (hrd : Rd w ad len zs)
    (h : wpList Try.prog ops Q rest (a.put o.dst (.string (str zs))) w) : wpList Try.prog ops Q (o :: rest) a w := by
  refine wpList_plain hgd fun K hK => ?_
  have hrun := run_str (cap := cap) hrd
  unfold Oper.wp
  simp [execOp, ho, hx, hrun, Result.andThen]
  exact hK _ _ h

/-- append(s, x, y) of two bytes that the statement itself has laid -/
theorem wpList_push2 {w : World} {ops : Array Oper} {rest : List Oper} {o : Oper} {a : Act} {Q : Exit → Act → World → Prop} (hgd : o.guard = none) (s x : Operand)
    (ho : o.op = .call { callee := .builtin .append, args := #[s, x], argTypes := #[33, 33] })
    (B : Nat) (v : Value) (zs : List Nat) (z1 z2 : Nat) (y1 y2 : Int) (hy1 : y1 = (z1 : Int)) (hy2 : y2 = (z2 : Int)) (hs : a.eval s = v) (hown : Own w B v zs) (hB : B ≤ w.heap.size) (hx : a.eval x = .slice (some ⟨w.heap.size, 0, none⟩) 2 2)
    (hlen : zs.length + 2 ≤ 140737488355328)
    (h : ∀ v' w', Own w' B v' (zs ++ [z1, z2]) → Below B w w' → wpList Try.prog ops Q rest (a.put o.dst v') w') :
    wpList Try.prog ops Q (o :: rest) a (w.alloc (.cells #[.int .u8 y1, .int .u8 y2] 5)) := by
  subst hy1 hy2
  obtain ⟨i0, hi, hz0, hz1, hz2⟩ := info_parts byteInfo
  refine wpList_append_own _ hgd s x 33 ho B 5 i0 (.int .u8 0) 1 1 Try.underlying33 hi hz0 hz1 hz2 rfl (by decide) v zs.length (cellsOf zs) hs (hown.alloc _) ⟨w.heap.size, 0, none⟩ 2 2 (cellsOf [z1, z2]) hx rfl ?_ (cellsOf_one _) (by unfold maxLen; omega) (by omega) (by simp; omega) ?_
  · intro j u hj
    match j, hj with
    | 0, hj => simp [cellsOf] at hj; subst hj; simp [Addr.add]
    | 1, hj => simp [cellsOf] at hj; subst hj; simp [Addr.add]
    | j + 2, hj => simp [cellsOf] at hj
  · intro v' w' h1 h2 _
    refine h v' w' ?_ ?_
    · have e : (zs ++ [z1, z2]).length = zs.length + 2 := by simp
      unfold Own
      rw [e, cellsOf_append]
      exact h1
    · refine ((Below.refl B w).alloc hB _).grown h2 (by simp; omega) fun k hk => (hown.lt k hk).1

/-- the same as one step of a region that draws its order -/
theorem step_push2 {W : World} {ops : Array Oper} {o : Oper} {a : Act} {K : Act → World → Prop} {Q : Exit → Act → World → Prop} {E : Prop} (hgd : o.guard = none) (s x : Operand)
    (ho : o.op = .call { callee := .builtin .append, args := #[s, x], argTypes := #[33, 33] })
    (B : Nat) (v : Value) (zs : List Nat) (z1 z2 : Nat) (g : Nat) (hs : a.eval s = v) (hown : Own W B v zs) (hB : B ≤ W.heap.size) (hx : a.eval x = .slice (some ⟨g, 0, none⟩) 2 2)
    (hc1 : W.cell? ⟨g, 0, none⟩ = some (.int .u8 (z1 : Int))) (hc2 : W.cell? ⟨g, 1, none⟩ = some (.int .u8 (z2 : Int)))
    (hlen : zs.length + 2 ≤ 140737488355328) (w0 : World) (hb : Below B w0 W)
    (h : ∀ v' w', Own w' B v' (zs ++ [z1, z2]) → Below B w0 w' → K (a.put o.dst v') w') :
    if Region.wanted o (yielded ops a.tmps) = true then Oper.wp Try.prog o a W K Q else E := by
  have hw : Region.wanted o (yielded ops a.tmps) = true := by simp [Region.wanted, hgd]
  rw [if_pos hw]
  obtain ⟨i0, hi, hz0, hz1, hz2⟩ := info_parts byteInfo
  refine wp_append_own W s x 33 ho B 5 i0 (.int .u8 0) 1 1 Try.underlying33 hi hz0 hz1 hz2 rfl (by decide) v zs.length (cellsOf zs) hs hown ⟨g, 0, none⟩ 2 2 (cellsOf [z1, z2]) hx rfl ?_ (cellsOf_one _) (by unfold maxLen; omega) (by omega) hB ?_
  · intro j u hj
    match j, hj with
    | 0, hj => simp [cellsOf] at hj; subst hj; exact hc1
    | 1, hj => simp [cellsOf] at hj; subst hj; exact hc2
    | j + 2, hj => simp [cellsOf] at hj
  · intro v' w' h1 h2 _
    refine h v' w' ?_ ?_
    · have e : (zs ++ [z1, z2]).length = zs.length + 2 := by simp
      unfold Own
      rw [e, cellsOf_append]
      exact h1
    · exact hb.grown h2 hB fun k hk => (hown.lt k hk).1

/-- a block that has just been laid reads as what was laid -/
theorem rd_lit (w : World) (zs : List Nat) (fr : Nat × Nat) (hz : ∀ z ∈ zs, z < 256) : Rd (w.alloc (.cells (cellsOf zs).toArray 5 fr)) (some ⟨w.heap.size, 0, none⟩) zs.length zs := by
  refine ⟨rfl, hz, .inr ⟨w.heap.size, 0, rfl, by simp, fun i hi => ?_⟩⟩
  rw [Nat.zero_add, cell_of_row (w.alloc (.cells (cellsOf zs).toArray 5 fr)) w.heap.size i (cellsOf zs).toArray 5 fr (heap_alloc_new w _)]
  rw [List.getElem?_toArray]
  exact cellsOf_get zs i hi

/-- new bytes, their slice written out: L bytes at a -/
def RetR (B : Nat) (w : World) (zs : List Nat) (e : Ending) (w' : World) : Prop :=
  ∃ a L cap, e = .returned (.slice a L cap) ∧ zs.length = L ∧ L ≤ cap ∧ cap ≤ 9223372036854775807 ∧ (a = none → cap = 0) ∧ Rd w' a L zs ∧ Own w' B (.slice a L cap) zs ∧ Below B w w'
theorem Own.form {w : World} {B : Nat} {v : Value} {zs : List Nat} (h : Own w B v zs) (hz : ∀ z ∈ zs, z < 256) :
    ∃ a L cap, v = .slice a L cap ∧ zs.length = L ∧ L ≤ cap ∧ cap ≤ 9223372036854775807 ∧ (a = none → cap = 0) ∧ Rd w a L zs ∧ Own w B (.slice a L cap) zs := by
  have h' := h
  obtain ⟨a, cap, rfl, h1, h2, h3⟩ := h.rd hz
  refine ⟨a, zs.length, cap, rfl, rfl, h1, h2, ?_, h3, h'⟩
  rintro rfl
  rcases h'.2 with ⟨h4, _⟩ | ⟨g, c, cur, h4, _⟩
  · simp at h4; omega
  · simp at h4
theorem RetB.form {B : Nat} {w : World} {zs : List Nat} (hz : ∀ z ∈ zs, z < 256) (e : Ending) (w' : World) (h : RetB B w zs e w') : RetR B w zs e w' := by
  obtain ⟨v, rfl, ho, hb⟩ := h
  obtain ⟨a, L, cap, rfl, h1, h2, h3, h4, h5, h6⟩ := ho.form hz
  exact ⟨a, L, cap, rfl, h1, h2, h3, h4, h5, h6, hb⟩
theorem Rd.take {w : World} {a : Option Addr} {len : Nat} {zs : List Nat} (h : Rd w a len zs) (k : Nat) (hk : k ≤ len) : Rd w a k (zs.take k) := by
  obtain ⟨h1, h2, h3⟩ := h
  refine ⟨by rw [List.length_take]; omega, fun z hz => h2 z (List.mem_of_mem_take hz), ?_⟩
  by_cases h0 : k = 0
  · exact .inl h0
  · rcases h3 with h3 | ⟨b, off, ha, hb, hc⟩
    · omega
    · refine .inr ⟨b, off, ha, hb, fun i hi => ?_⟩
      rw [hc i (by omega)]
      simp [hi]
theorem Rd.drop {w : World} {b off len : Nat} {zs : List Nat} (h : Rd w (some ⟨b, off, none⟩) len zs) (k : Nat) : Rd w (some ⟨b, off + k, none⟩) (len - k) (zs.drop k) := by
  obtain ⟨h1, h2, h3⟩ := h
  refine ⟨by rw [List.length_drop]; omega, fun z hz => h2 z (List.mem_of_mem_drop hz), ?_⟩
  by_cases h0 : len - k = 0
  · exact .inl h0
  · rcases h3 with h3 | ⟨b', off', ha, hb, hc⟩
    · omega
    · simp only [Option.some.injEq, Addr.mk.injEq, and_true] at ha
      obtain ⟨rfl, rfl⟩ := ha
      refine .inr ⟨b, off + k, rfl, hb, fun i hi => ?_⟩
      rw [Nat.add_assoc, hc (k + i) (by omega)]
      simp
/-- append(s, p...), the new slice written out -/
theorem wpList_catR {w : World} {ops : Array Oper} {rest : List Oper} {o : Oper} {a : Act} {Q : Exit → Act → World → Prop} (hgd : o.guard = none) (s x : Operand)
    (ho : o.op = .call { callee := .builtin .append, args := #[s, x], argTypes := #[33, 33] })
    (B : Nat) (v : Value) (zs ys : List Nat) (hs : a.eval s = v) (hown : Own w B v zs) (hB : B ≤ w.heap.size) (ad : Option Addr) (len cap : Nat) (hx : a.eval x = .slice ad len cap)
    (hrd : Rd w ad len ys) (hnil : ad = none → cap = 0) (hz : ∀ z ∈ zs, z < 256)
    (hlen : zs.length + ys.length ≤ 140737488355328)
    (h : ∀ a' L' cap' w', (zs ++ ys).length = L' → L' ≤ cap' → cap' ≤ 9223372036854775807 → (a' = none → cap' = 0) → Rd w' a' L' (zs ++ ys) → Own w' B (.slice a' L' cap') (zs ++ ys) → Below B w w' → wpList Try.prog ops Q rest (a.put o.dst (.slice a' L' cap')) w') :
    wpList Try.prog ops Q (o :: rest) a w := by
  refine wpList_cat hgd s x ho B v zs ys hs hown hB ad len cap hx hrd hnil hlen fun v' w' h1 h2 => ?_
  obtain ⟨a', L', cap', rfl, g1, g2, g3, g4, g5, g6⟩ := h1.form (by
    intro z hm
    rcases List.mem_append.1 hm with h | h
    · exact hz z h
    · exact hrd.2.1 z h)
  exact h a' L' cap' w' g1 g2 g3 g4 g5 g6 h2

theorem drewN_add (w : World) (a b : Nat) : (w.drewN a).drewN b = w.drewN (a + b) := by
  simp [World.drewN, Nat.add_assoc]
theorem below_drewN' (B : Nat) (w : World) (n : Nat) : Below B w (w.drewN n) := ⟨rfl, rfl, rfl, Nat.le_refl _, fun _ _ => rfl⟩

theorem Own.nil (w : World) (B : Nat) : Own w B (.slice none 0 0) [] := World.ownsRow_nil _ _ _ _
end Go.Proofs.Ytpppffgchgcghaa
namespace Go.Proofs.Ytpppffgchgcghaa
open Go.RowKit
set_option linter.unusedVariables false
section
variable {P : Program} {ops : Array Oper} {Q : Exit → Act → World → Prop} {md : Region.Mode}
theorem wanted_plain {o : Oper} (hgd : o.guard = none) (a : Act) : Region.wanted o (yielded ops a.tmps) = true := by simp [Region.wanted, hgd]
/-- operation i is a load: it yields v here -/
theorem op_load {i d : Nat} {ty : TypeId} {x : Operand} {p v : Value} {a : Act} {w : World} {K : Act → World → Prop}
    (hi : (ops[i]?.map fun o => (o.dst, o.op, o.guard)) = some (some d, Op.load ty x, none)) (hx : a.eval x = p) (hrun : (Instr.loadAt ty p).run P w = .ok v w)
    (h : K (a.put (some d) v) w) : wpOp P ops Q i K a w := by
  cases ho : ops[i]? with
  | none => simp [ho] at hi
  | some o =>
    simp only [ho, Option.map_some, Option.some.injEq, Prod.mk.injEq] at hi
    obtain ⟨h1, h2, h3⟩ := hi
    unfold wpOp
    simp only [ho, wanted_plain h3, if_true]
    refine .inl ?_
    unfold Oper.wp execOp
    simp only [h2, hx, hrun, Sem.run_bind, Result.andThen_ok, Sem.run_pure]
    show K (a.put o.dst v) w
    rw [h1]
    exact h
/-- what yields in whatever world is taken first -/
theorem any_pure (i : Nat) {d : Nat} {op : Op} (v : Value) {fuel : Nat} {listed : Array Bool} {a : Act} {w : World}
    (hi : (ops[i]?.map fun o => (o.dst, o.op, o.guard)) = some (some d, op, none)) (hs : Region.noSelect ops = true) (hf : Region.free md ops listed i = true) (hr : (Region.ready md ops listed).contains i = true)
    (hQ : ∀ c a w, Q (.panic c) (a.put (some d) v) w → Q (.panic c) a w) (hy : ∀ o : Oper, o.op = op → ∀ W, (execOp a.eval o).run P W = .ok (.value v) W)
    (h : wpAny P md ops Q fuel (listed.setIfInBounds i true) (a.put (some d) v) w) : wpAny P md ops Q (fuel + 1) listed a w := by
  cases ho : ops[i]? with
  | none => simp [ho] at hi
  | some o =>
    simp only [ho, Option.map_some, Option.some.injEq, Prod.mk.injEq] at hi
    obtain ⟨h1, h2, h3⟩ := hi
    refine wpAny_take ho hs hf hr ?_ (Or.inl ⟨wanted_plain h3 a, hy o h2⟩) ?_
    · rw [h1]; exact hQ
    · rw [h1]; exact h
/-- two loads, in either order -/
theorem any_loads2 (i j : Nat) {d1 d2 : Nat} {t1 t2 : TypeId} {x1 x2 : Operand} {p1 p2 v1 v2 : Value} {fuel : Nat} {listed : Array Bool} {a : Act} {w : World}
    (h0 : Region.ready md ops listed = [i, j]) (h1 : Region.ready md ops (listed.setIfInBounds i true) = [j]) (h2 : Region.ready md ops (listed.setIfInBounds j true) = [i])
    (hij : i ≠ j) (hd : d1 ≠ d2)
    (hi : (ops[i]?.map fun o => (o.dst, o.op, o.guard)) = some (some d1, Op.load t1 x1, none)) (hj : (ops[j]?.map fun o => (o.dst, o.op, o.guard)) = some (some d2, Op.load t2 x2, none))
    (e1 : a.eval x1 = p1) (e2 : a.eval x2 = p2) (e1' : (a.put (some d2) v2).eval x1 = p1) (e2' : (a.put (some d1) v1).eval x2 = p2)
    (r1 : (Instr.loadAt t1 p1).run P w = .ok v1 w) (r2 : (Instr.loadAt t2 p2).run P w = .ok v2 w)
    (h : wpAny P md ops Q fuel ((listed.setIfInBounds i true).setIfInBounds j true) ((a.put (some d1) v1).put (some d2) v2) w) :
    wpAny P md ops Q (fuel + 1 + 1) listed a w := by
  refine wpAny_all h0 (by simp) ?_
  intro k hk
  simp only [List.mem_cons, List.not_mem_nil, or_false] at hk
  rcases hk with rfl | rfl
  · refine op_load hi e1 r1 (wpAny_all h1 (by simp) ?_)
    intro k hk
    simp only [List.mem_cons, List.not_mem_nil, or_false] at hk
    subst hk
    exact op_load hj e2' r2 h
  · refine op_load hj e2 r2 (wpAny_all h2 (by simp) ?_)
    intro l hl
    simp only [List.mem_cons, List.not_mem_nil, or_false] at hl
    subst hl
    refine op_load hi e1' r1 ?_
    rw [Array.setIfInBounds_comm _ _ hij] at h
    have hc : (a.put (some d2) v2).put (some d1) v1 = (a.put (some d1) v1).put (some d2) v2 := Act.put_comm a v2 v1 (by simp [hd])
    rw [hc]
    exact h
/-- one load alone may come up -/
theorem any_load (i : Nat) {d : Nat} {ty : TypeId} {x : Operand} {p v : Value} {fuel : Nat} {listed : Array Bool} {a : Act} {w : World}
    (h0 : Region.ready md ops listed = [i]) (hi : (ops[i]?.map fun o => (o.dst, o.op, o.guard)) = some (some d, Op.load ty x, none)) (hx : a.eval x = p) (hrun : (Instr.loadAt ty p).run P w = .ok v w)
    (h : wpAny P md ops Q fuel (listed.setIfInBounds i true) (a.put (some d) v) w) : wpAny P md ops Q (fuel + 1) listed a w := by
  refine wpAny_all h0 (by simp) ?_
  intro k hk
  simp only [List.mem_cons, List.not_mem_nil, or_false] at hk
  subst hk
  exact op_load hi hx hrun h
/-- a call alone may come up: by its contract -/
theorem any_call (i : Nat) {d : Option Tmp} {f : FuncId} {xs : Array Operand} {ts : Array TypeId} {vs : Array Value} {fuel : Nat} {listed : Array Bool} {a : Act} {w : World} {R : Ending → World → Prop}
    (h0 : Region.ready md ops listed = [i]) (hi : (ops[i]?.map fun o => (o.dst, o.op, o.guard)) = some (d, Op.call { callee := .value (.func f), args := xs, argTypes := ts }, none)) (hx : xs.map a.eval = vs)
    (hf : (callFunc f vs).run P w = .ok (.enter f vs) w) (hc : Calls P f vs w R)
    (h : ∀ e w', R e w' → ∃ v, e = .returned v ∧ wpAny P md ops Q fuel (listed.setIfInBounds i true) (a.put d v) w') : wpAny P md ops Q (fuel + 1) listed a w := by
  refine wpAny_all h0 (by simp) ?_
  intro k hk
  simp only [List.mem_cons, List.not_mem_nil, or_false] at hk
  subst hk
  cases ho : ops[k]? with
  | none => simp [ho] at hi
  | some o =>
    simp only [ho, Option.map_some, Option.some.injEq, Prod.mk.injEq] at hi
    obtain ⟨h1, h2, h3⟩ := hi
    unfold wpOp
    simp only [ho, wanted_plain h3, if_true]
    refine .inl ?_
    have hr : (execOp a.eval o).run P w = .ok (.enter f vs) w := by
      unfold execOp
      rw [h2]
      simp [resolve, invoke, hx, Act.eval, go_sem, hf]
    unfold Oper.wp
    rw [hr]
    refine hc.mono fun e w' hR => ?_
    obtain ⟨v, rfl, hv⟩ := h e w' hR
    rw [h1]
    exact hv
/-- a store of a whole array alone may come up -/
theorem any_store_mid (i : Nat) {ty : TypeId} {x y : Operand} {fuel : Nat} {listed : Array Bool} {a : Act} {w : World} (b o : Nat) (cells : Array Value)
    (h0 : Region.ready md ops listed = [i]) (hi : (ops[i]?.map fun o => (o.dst, o.op, o.guard)) = some (none, Op.store ty x y, none))
    (hx : a.eval x = .pointer (some ⟨b, o, none⟩)) (hy : a.eval y = .agg cells)
    (ht : w.there b o cells.size) (hs : (P.info? ty).map (·.size) = some cells.size) (h1 : cells.all (·.oneCell') = true)
    (h : wpAny P md ops Q fuel (listed.setIfInBounds i true) a (w.setCells b o cells.toList)) : wpAny P md ops Q (fuel + 1) listed a w := by
  refine wpAny_all h0 (by simp) ?_
  intro k hk
  simp only [List.mem_cons, List.not_mem_nil, or_false] at hk
  subst hk
  cases ho : ops[k]? with
  | none => simp [ho] at hi
  | some op =>
    simp only [ho, Option.map_some, Option.some.injEq, Prod.mk.injEq] at hi
    obtain ⟨g1, g2, g3⟩ := hi
    unfold wpOp
    simp only [ho, wanted_plain g3, if_true]
    refine .inl (wp_store_mid ty x y g2 b o cells hx hy ht hs h1 ?_)
    rw [g1]
    exact h
end
end Go.Proofs.Ytpppffgchgcghaa
namespace Go.Proofs.Ytpppffgchgcghaa
open Go.RowKit
set_option linter.unusedVariables false
section
variable {P : Program} {ops : Array Oper} {Q : Exit → Act → World → Prop} {md : Region.Mode} {S : World → Prop}
/-- what yields in every world that meets S is taken first -/
theorem anyH_pure (i : Nat) {d : Nat} {op : Op} (v : Value) {fuel : Nat} {listed : Array Bool} {a : Act} {w : World}
    (hi : (ops[i]?.map fun o => (o.dst, o.op, o.guard)) = some (some d, op, none)) (hs : Region.noSelect ops = true) (hf : Region.free md ops listed i = true) (hr : (Region.ready md ops listed).contains i = true)
    (hQ : ∀ c a w, Q (.panic c) (a.put (some d) v) w → Q (.panic c) a w) (hy : ∀ o : Oper, o.op = op → ∀ W, S W → (execOp a.eval o).run P W = .ok (.value v) W) (hS : S w)
    (h : wpAnyH P md ops Q S fuel (listed.setIfInBounds i true) (a.put (some d) v) w) : wpAnyH P md ops Q S (fuel + 1) listed a w := by
  cases ho : ops[i]? with
  | none => simp [ho] at hi
  | some o =>
    simp only [ho, Option.map_some, Option.some.injEq, Prod.mk.injEq] at hi
    obtain ⟨h1, h2, h3⟩ := hi
    refine wpAnyH_take ho hs hf hr ?_ (Or.inl ⟨wanted_plain h3 a, hy o h2⟩) hS ?_
    · rw [h1]; exact hQ
    · rw [h1]; exact h
theorem anyH_load (i : Nat) {d : Nat} {ty : TypeId} {x : Operand} {p : Value} (v : Value) {fuel : Nat} {listed : Array Bool} {a : Act} {w : World}
    (hi : (ops[i]?.map fun o => (o.dst, o.op, o.guard)) = some (some d, Op.load ty x, none)) (hs : Region.noSelect ops = true) (hf : Region.free md ops listed i = true) (hr : (Region.ready md ops listed).contains i = true)
    (hQ : ∀ c a w, Q (.panic c) (a.put (some d) v) w → Q (.panic c) a w) (hx : a.eval x = p) (hy : ∀ W, S W → (Instr.loadAt ty p).run P W = .ok v W) (hS : S w)
    (h : wpAnyH P md ops Q S fuel (listed.setIfInBounds i true) (a.put (some d) v) w) : wpAnyH P md ops Q S (fuel + 1) listed a w :=
  anyH_pure i v hi hs hf hr hQ (fun o ho W hW => by unfold execOp; simp only [ho, hx, hy W hW, Sem.run_bind, Result.andThen_ok, Sem.run_pure]) hS h
/-- a call alone may come up: by its contract; the condition is shown anew -/
theorem anyH_call (i : Nat) {d : Option Tmp} {f : FuncId} {xs : Array Operand} {ts : Array TypeId} {vs : Array Value} {fuel : Nat} {listed : Array Bool} {a : Act} {w : World} {R : Ending → World → Prop}
    (h0 : Region.ready md ops listed = [i]) (hi : (ops[i]?.map fun o => (o.dst, o.op, o.guard)) = some (d, Op.call { callee := .value (.func f), args := xs, argTypes := ts }, none)) (hx : xs.map a.eval = vs)
    (hf : (callFunc f vs).run P w = .ok (.enter f vs) w) (hc : Calls P f vs w R)
    (h : ∀ e w', R e w' → ∃ v, e = .returned v ∧ S w' ∧ (S w' → wpAnyH P md ops Q S fuel (listed.setIfInBounds i true) (a.put d v) w')) : wpAnyH P md ops Q S (fuel + 1) listed a w := by
  refine wpAnyH_all h0 (by simp) ?_
  intro k hk
  simp only [List.mem_cons, List.not_mem_nil, or_false] at hk
  subst hk
  cases ho : ops[k]? with
  | none => simp [ho] at hi
  | some o =>
    simp only [ho, Option.map_some, Option.some.injEq, Prod.mk.injEq] at hi
    obtain ⟨h1, h2, h3⟩ := hi
    unfold wpOp
    simp only [ho, wanted_plain h3, if_true]
    refine .inl ?_
    have hr : (execOp a.eval o).run P w = .ok (.enter f vs) w := by
      unfold execOp
      rw [h2]
      simp [resolve, invoke, hx, Act.eval, go_sem, hf]
    unfold Oper.wp
    rw [hr]
    refine hc.mono fun e w' hR => ?_
    obtain ⟨v, rfl, hS, hv⟩ := h e w' hR
    rw [h1]
    exact ⟨hS, hv hS⟩
/-- the same where the operation bears a guard that lets it be -/
theorem anyH_pureG (i : Nat) {d : Nat} {op : Op} {gd : Option (Nat × Bool)} (v : Value) {fuel : Nat} {listed : Array Bool} {a : Act} {w : World}
    (hi : (ops[i]?.map fun o => (o.dst, o.op, o.guard)) = some (some d, op, gd)) (hw : ∀ o : Oper, o.guard = gd → Region.wanted o (yielded ops a.tmps) = true) (hs : Region.noSelect ops = true) (hf : Region.free md ops listed i = true) (hr : (Region.ready md ops listed).contains i = true)
    (hQ : ∀ c a w, Q (.panic c) (a.put (some d) v) w → Q (.panic c) a w) (hy : ∀ o : Oper, o.op = op → ∀ W, S W → (execOp a.eval o).run P W = .ok (.value v) W) (hS : S w)
    (h : wpAnyH P md ops Q S fuel (listed.setIfInBounds i true) (a.put (some d) v) w) : wpAnyH P md ops Q S (fuel + 1) listed a w := by
  cases ho : ops[i]? with
  | none => simp [ho] at hi
  | some o =>
    simp only [ho, Option.map_some, Option.some.injEq, Prod.mk.injEq] at hi
    obtain ⟨h1, h2, h3⟩ := hi
    refine wpAnyH_take ho hs hf hr ?_ (Or.inl ⟨hw o h3, hy o h2⟩) hS ?_
    · rw [h1]; exact hQ
    · rw [h1]; exact h
/-- an operation that its guard keeps out -/
theorem anyH_skip (i : Nat) {d : Nat} {op : Op} {gd : Option (Nat × Bool)} {fuel : Nat} {listed : Array Bool} {a : Act} {w : World}
    (hi : (ops[i]?.map fun o => (o.dst, o.op, o.guard)) = some (some d, op, gd)) (hw : ∀ o : Oper, o.guard = gd → Region.wanted o (yielded ops a.tmps) = false) (hs : Region.noSelect ops = true) (hf : Region.free md ops listed i = true) (hr : (Region.ready md ops listed).contains i = true)
    (hQ : ∀ c a w, Q (.panic c) (a.put (some d) undef) w → Q (.panic c) a w) (hS : S w)
    (h : wpAnyH P md ops Q S fuel (listed.setIfInBounds i true) (a.put (some d) undef) w) : wpAnyH P md ops Q S (fuel + 1) listed a w := by
  cases ho : ops[i]? with
  | none => simp [ho] at hi
  | some o =>
    simp only [ho, Option.map_some, Option.some.injEq, Prod.mk.injEq] at hi
    obtain ⟨h1, h2, h3⟩ := hi
    refine wpAnyH_take ho hs hf hr ?_ (Or.inr ⟨hw o h3, rfl⟩) hS ?_
    · rw [h1]; exact hQ
    · rw [h1]; exact h
theorem anyH_loadG (i : Nat) {d : Nat} {ty : TypeId} {x : Operand} {gd : Option (Nat × Bool)} {p : Value} (v : Value) {fuel : Nat} {listed : Array Bool} {a : Act} {w : World}
    (hi : (ops[i]?.map fun o => (o.dst, o.op, o.guard)) = some (some d, Op.load ty x, gd)) (hw : ∀ o : Oper, o.guard = gd → Region.wanted o (yielded ops a.tmps) = true) (hs : Region.noSelect ops = true) (hf : Region.free md ops listed i = true) (hr : (Region.ready md ops listed).contains i = true)
    (hQ : ∀ c a w, Q (.panic c) (a.put (some d) v) w → Q (.panic c) a w) (hx : a.eval x = p) (hy : ∀ W, S W → (Instr.loadAt ty p).run P W = .ok v W) (hS : S w)
    (h : wpAnyH P md ops Q S fuel (listed.setIfInBounds i true) (a.put (some d) v) w) : wpAnyH P md ops Q S (fuel + 1) listed a w :=
  anyH_pureG i v hi hw hs hf hr hQ (fun o ho W hW => by unfold execOp; simp only [ho, hx, hy W hW, Sem.run_bind, Result.andThen_ok, Sem.run_pure]) hS h
theorem anyH_eqG (i : Nat) {d : Nat} {t t' : TypeId} {x y : Operand} {gd : Option (Nat × Bool)} (xs ys : Array Value) (b : Bool) {fuel : Nat} {listed : Array Bool} {a : Act} {w : World}
    (hi : (ops[i]?.map fun o => (o.dst, o.op, o.guard)) = some (some d, Op.binOp .eql t x y t', gd)) (hw : ∀ o : Oper, o.guard = gd → Region.wanted o (yielded ops a.tmps) = true) (hs : Region.noSelect ops = true) (hf : Region.free md ops listed i = true) (hr : (Region.ready md ops listed).contains i = true)
    (hQ : ∀ c a w, Q (.panic c) (a.put (some d) (.bool b)) w → Q (.panic c) a w) (hx : a.eval x = .agg xs) (hy : a.eval y = .agg ys) (hm : P.eqGuardType P.depth t = false)
    (hrun : ∀ W, (Op.equalIn 10000 t (.agg xs) (.agg ys)).run P W = .ok b W) (hS : S w)
    (h : wpAnyH P md ops Q S fuel (listed.setIfInBounds i true) (a.put (some d) (.bool b)) w) : wpAnyH P md ops Q S (fuel + 1) listed a w :=
  anyH_pureG i (.bool b) hi hw hs hf hr hQ (fun o ho W hW => by
    unfold execOp
    simp only [ho, hx, hy, Sem.run_bind, run_eqGuard_agg W .eql t x y xs ys hm, run_eql_struct, hrun W, Result.andThen_ok, Sem.run_pure]) hS h
theorem anyH_callG (i : Nat) {d : Option Tmp} {f : FuncId} {xs : Array Operand} {ts : Array TypeId} {gd : Option (Nat × Bool)} {vs : Array Value} {fuel : Nat} {listed : Array Bool} {a : Act} {w : World} {R : Ending → World → Prop}
    (h0 : Region.ready md ops listed = [i]) (hi : (ops[i]?.map fun o => (o.dst, o.op, o.guard)) = some (d, Op.call { callee := .value (.func f), args := xs, argTypes := ts }, gd)) (hw : ∀ o : Oper, o.guard = gd → Region.wanted o (yielded ops a.tmps) = true) (hx : xs.map a.eval = vs)
    (hf : (callFunc f vs).run P w = .ok (.enter f vs) w) (hc : Calls P f vs w R)
    (h : ∀ e w', R e w' → ∃ v, e = .returned v ∧ S w' ∧ (S w' → wpAnyH P md ops Q S fuel (listed.setIfInBounds i true) (a.put d v) w')) : wpAnyH P md ops Q S (fuel + 1) listed a w := by
  refine wpAnyH_all h0 (by simp) ?_
  intro k hk
  simp only [List.mem_cons, List.not_mem_nil, or_false] at hk
  subst hk
  cases ho : ops[k]? with
  | none => simp [ho] at hi
  | some o =>
    simp only [ho, Option.map_some, Option.some.injEq, Prod.mk.injEq] at hi
    obtain ⟨h1, h2, h3⟩ := hi
    unfold wpOp
    simp only [ho, hw o h3, if_true]
    refine .inl ?_
    have hr : (execOp a.eval o).run P w = .ok (.enter f vs) w := by
      unfold execOp
      rw [h2]
      simp [resolve, invoke, hx, Act.eval, go_sem, hf]
    unfold Oper.wp
    rw [hr]
    refine hc.mono fun e w' hR => ?_
    obtain ⟨v, rfl, hS, hv⟩ := h e w' hR
    rw [h1]
    exact ⟨hS, hv hS⟩
/-- a load whose guard lets it be -/
theorem wpList_loadg {rest : List Oper} {o : Oper} {a : Act} {w : World} (ty : TypeId) (x : Operand) (ho : o.op = .load ty x) (hw : Region.wanted o (yielded ops a.tmps) = true) (p : Value) (hx : a.eval x = p) (v : Value)
    (hrun : (Instr.loadAt ty p).run P w = .ok v w) (h : wpList P ops Q rest (a.put o.dst v) w) : wpList P ops Q (o :: rest) a w := by
  rw [wpList, if_pos hw]
  refine .inl ?_
  unfold Oper.wp execOp
  simp only [ho, hx, hrun, Sem.run_bind, Result.andThen_ok, Sem.run_pure]
  exact h
/-- two sums are compared -/
theorem wpList_eqg {rest : List Oper} {o : Oper} {a : Act} {w : World} (t t' : TypeId) (x y : Operand) (ho : o.op = .binOp .eql t x y t') (hw : Region.wanted o (yielded ops a.tmps) = true) (xs ys : Array Value) (hx : a.eval x = .agg xs) (hy : a.eval y = .agg ys)
    (hm : P.eqGuardType P.depth t = false) (b : Bool) (hrun : (Op.equalIn 10000 t (.agg xs) (.agg ys)).run P w = .ok b w) (h : wpList P ops Q rest (a.put o.dst (.bool b)) w) : wpList P ops Q (o :: rest) a w := by
  rw [wpList, if_pos hw]
  refine .inl ?_
  unfold Oper.wp execOp
  simp only [ho, hx, hy, Sem.run_bind, run_eqGuard_agg w .eql t x y xs ys hm, run_eql_struct, hrun, Result.andThen_ok, Sem.run_pure]
  exact h
theorem anyH_begin {id : Nat} {a : Act} {w : World} (hm : P.follows .mixedOrders = true) (h : wpAnyH P .any ops Q S ops.size (Array.replicate ops.size false) a w.drew) : (Code.region id ops true).wp P Q a w :=
  wp_region_held hm h
end
end Go.Proofs.Ytpppffgchgcghaa
namespace Go.Proofs.Ytpppffgchgcghaa.Rotm
/-- x turned to the right by k -/
def rot (x : Nat) (k : Nat) : Nat := ((BitVec.ofNat 32 x).rotateRight k).toNat
theorem rot_lt (x k : Nat) : rot x k < 4294967296 := (BitVec.rotateRight _ _).isLt
theorem rot_mod (x k : Nat) : rot x (k % 32) = rot x k := by unfold rot; rw [BitVec.rotateRight_mod_eq_rotateRight]
/-- bit i of it -/
theorem rot_bit (x k i : Nat) (_hx : x < 4294967296) (hk : k < 32) (hi : i < 32) : (rot x k).testBit i = x.testBit ((i + k) % 32) := by
  unfold rot
  rw [BitVec.testBit_toNat, BitVec.getLsbD_rotateRight, Nat.mod_eq_of_lt hk]
  by_cases h : i < 32 - k
  · rw [decide_eq_true h, cond_true, Nat.mod_eq_of_lt (show i + k < 32 by omega), BitVec.getLsbD_ofNat]
    simp [show k + i < 32 by omega, Nat.add_comm]
  · rw [decide_eq_false h, cond_false, show (i + k) % 32 = i - (32 - k) by omega, BitVec.getLsbD_ofNat]
    simp [hi, show i - (32 - k) < 32 by omega]
theorem ext32 {a b : Nat} (ha : a < 4294967296) (hb : b < 4294967296) (h : ∀ i, i < 32 → a.testBit i = b.testBit i) : a = b := by
  apply Nat.eq_of_testBit_eq
  intro i
  by_cases hi : i < 32
  · exact h i hi
  · have h2 : 4294967296 ≤ 2 ^ i := Nat.pow_le_pow_right (n := 2) (by omega) (show 32 ≤ i by omega)
    rw [Nat.testBit_lt_two_pow (Nat.lt_of_lt_of_le ha h2), Nat.testBit_lt_two_pow (Nat.lt_of_lt_of_le hb h2)]
/-- by two shifts -/
theorem rot_two (x k : Nat) (hx : x < 4294967296) (hk : k < 32) : (x / 2 ^ k) ||| (x * 2 ^ (32 - k) % 4294967296) = rot x k := by
  have h1 : x / 2 ^ k < 2 ^ 32 := Nat.lt_of_le_of_lt (Nat.div_le_self _ _) hx
  refine ext32 (Nat.or_lt_two_pow (n := 32) h1 (by omega)) (rot_lt _ _) fun i hi => ?_
  rw [rot_bit x k i hx hk hi, Nat.testBit_or, Nat.testBit_div_two_pow, show (4294967296 : Nat) = 2 ^ 32 from rfl, Nat.testBit_mod_two_pow, Nat.testBit_mul_two_pow]
  by_cases h : i + k < 32
  · rw [Nat.mod_eq_of_lt h]
    simp [hi, show ¬ 32 - k ≤ i by omega]
  · have : x.testBit (i + k) = false := Nat.testBit_lt_two_pow (Nat.lt_of_lt_of_le hx (show 4294967296 ≤ 2 ^ (i + k) from Nat.pow_le_pow_right (n := 2) (by omega) (show 32 ≤ i + k by omega)))
    rw [this, show (i + k) % 32 = i - (32 - k) by omega]
    simp [hi, show 32 - k ≤ i by omega]
/-- the document's rounds: the first m bits are laid -/
def laid (x k : Nat) : Nat → Nat
  | 0 => 0
  | m + 1 => if x.testBit m then laid x k m ||| 2 ^ ((m + 32 - k) % 32) else laid x k m
theorem laid_lt (x k m : Nat) : laid x k m < 4294967296 := by
  induction m with
  | zero => simp [laid]
  | succ m ih =>
    simp only [laid]
    split
    · exact Nat.or_lt_two_pow (n := 32) ih (Nat.pow_lt_pow_right (by omega) (by omega))
    · exact ih
theorem laid_bit (x k m i : Nat) (hk : k < 32) (hm : m ≤ 32) (hi : i < 32) : (laid x k m).testBit i = (decide ((i + k) % 32 < m) && x.testBit ((i + k) % 32)) := by
  induction m with
  | zero => simp [laid]
  | succ m ih =>
    have ih := ih (by omega)
    simp only [laid]
    by_cases hb : x.testBit m
    · rw [if_pos hb, Nat.testBit_or, ih, Nat.testBit_two_pow]
      by_cases e : (i + k) % 32 = m
      · subst e
        simp [hb, show ((i + k) % 32 + 32 - k) % 32 = i by omega]
      · have : ¬ (m + 32 - k) % 32 = i := by omega
        simp only [this, decide_false, Bool.or_false]
        congr 1
        apply decide_eq_decide.2
        omega
    · rw [if_neg hb, ih]
      by_cases e : (i + k) % 32 = m
      · subst e
        simp [hb]
      · congr 1
        apply decide_eq_decide.2
        omega
theorem laid_all (x k : Nat) (hx : x < 4294967296) (hk : k < 32) : laid x k 32 = rot x k :=
  ext32 (laid_lt _ _ _) (rot_lt _ _) fun i hi => by
    rw [laid_bit x k 32 i hk (by omega) hi, rot_bit x k i hx hk hi]
    simp [Nat.mod_lt]
/-- there and back -/
theorem rot_back (x k : Nat) (hx : x < 4294967296) (hk : k < 32) : rot (rot x k) ((32 - k) % 32) = x :=
  ext32 (rot_lt _ _) hx fun i hi => by
    rw [rot_bit _ _ i (rot_lt _ _) (by omega) hi, rot_bit x k _ hx hk (by omega)]
    congr 1
    omega
/-- the lowest five bits of an integer -/
theorem and31 (n : Int) : bits .and .i64 n 31 = n % 32 := by
  show IntKind.i64.wrap ((BitVec.ofInt 64 n &&& BitVec.ofInt 64 31).toNat : Int) = _
  have h : (BitVec.ofInt 64 n &&& BitVec.ofInt 64 31).toNat = (BitVec.ofInt 64 n).toNat % 32 := by
    rw [BitVec.toNat_and, show (BitVec.ofInt 64 31).toNat = 2 ^ 5 - 1 by rfl, Nat.and_two_pow_sub_one_eq_mod]
  have h2 : ((BitVec.ofInt 64 n).toNat : Int) % 32 = n % 32 := by
    rw [BitVec.toNat_ofInt]
    omega
  rw [h]
  have : IntKind.i64.wrap (((BitVec.ofInt 64 n).toNat % 32 : Nat) : Int) = (((BitVec.ofInt 64 n).toNat % 32 : Nat) : Int) := by
    simp [IntKind.wrap, IntKind.bits, IntKind.signed]
    omega
  rw [this]
  omega
end Go.Proofs.Ytpppffgchgcghaa.Rotm
namespace Go.Proofs.Ytpppffgchgcghaa
open Go.RowKit

theorem cast_div (x k : Nat) : ((x : Int) / 2 ^ k) = ((x / 2 ^ k : Nat) : Int) := by rw [Int.natCast_ediv, Int.natCast_pow]; rfl
theorem cast_mul (x k : Nat) : ((x : Int) * 2 ^ k % 4294967296) = ((x * 2 ^ k % 4294967296 : Nat) : Int) := by rw [Int.natCast_emod, Int.natCast_mul, Int.natCast_pow]; rfl
theorem and_one (C : Nat) (h : C < 4294967296) : bits .and .u32 (C:Int) 1 = ((C % 2 : Nat) : Int) := by
  have := u32_and_nat C 1 h (by omega)
  rw [Nat.and_one_is_mod] at this
  exact this
theorem test_yes (x m : Nat) (hx : x < 4294967296) (h : x.testBit m = true) : bits .and .u32 ((x : Int) / 2 ^ m) 1 = 1 := by
  rw [cast_div, and_one _ (Nat.lt_of_le_of_lt (Nat.div_le_self _ _) hx)]
  rw [Nat.testBit_eq_decide_div_mod_eq] at h
  have := of_decide_eq_true h
  omega
theorem test_no (x m : Nat) (hx : x < 4294967296) (h : x.testBit m = false) : bits .and .u32 ((x : Int) / 2 ^ m) 1 = 0 := by
  rw [cast_div, and_one _ (Nat.lt_of_le_of_lt (Nat.div_le_self _ _) hx)]
  rw [Nat.testBit_eq_decide_div_mod_eq] at h
  have := of_decide_eq_false h
  omega

end Go.Proofs.Ytpppffgchgcghaa
namespace Go.Proofs.Ytpppffgchgcghaa.Numm
/-- the number whose bytes these are -/
def num (c : Nat) (zs : List Nat) : Nat := zs.foldl (fun n z => n * 256 + z) c
theorem num_snoc (c : Nat) (zs : List Nat) (k : Nat) (h : k < zs.length) : num c (zs.take (k + 1)) = num c (zs.take k) * 256 + zs[k] := by
  unfold num
  rw [List.take_succ_eq_append_getElem h, List.foldl_append]
  rfl
theorem num_lt (zs : List Nat) (hz : ∀ z ∈ zs, z < 256) : num 0 zs < 256 ^ zs.length := by
  have : ∀ c, num c zs < (c + 1) * 256 ^ zs.length := by
    induction zs with
    | nil => intro c; simp [num]
    | cons z zs ih =>
      intro c
      have h1 := ih (fun x hx => hz x (List.mem_cons_of_mem _ hx)) (c * 256 + z)
      have h2 := hz z List.mem_cons_self
      show num (c * 256 + z) zs < _
      refine Nat.lt_of_lt_of_le h1 ?_
      have e : (c + 1) * 256 ^ (zs.length + 1) = ((c + 1) * 256) * 256 ^ zs.length := by rw [Nat.pow_succ, Nat.mul_comm (256 ^ zs.length) 256, Nat.mul_assoc]
      rw [List.length_cons, e]
      exact Nat.mul_le_mul_right _ (by omega)
  simpa using this 0
theorem num_take_lt (zs : List Nat) (hz : ∀ z ∈ zs, z < 256) (hl : zs.length ≤ 8) (k : Nat) : num 0 (zs.take k) < 18446744073709551616 := by
  have h := num_lt (zs.take k) (fun z hm => hz z (List.mem_of_mem_take hm))
  have h2 : (zs.take k).length ≤ 8 := by rw [List.length_take]; omega
  have h3 : 256 ^ (zs.take k).length ≤ 256 ^ 8 := Nat.pow_le_pow_right (by omega) h2
  omega
/-- before the last byte there is room for one more -/
theorem num_take_lt7 (zs : List Nat) (hz : ∀ z ∈ zs, z < 256) (hl : zs.length ≤ 8) (k : Nat) (hk : k < zs.length) : num 0 (zs.take k) < 72057594037927936 := by
  have h := num_lt (zs.take k) (fun z hm => hz z (List.mem_of_mem_take hm))
  have h2 : (zs.take k).length ≤ 7 := by rw [List.length_take]; omega
  have h3 : 256 ^ (zs.take k).length ≤ 256 ^ 7 := Nat.pow_le_pow_right (by omega) h2
  omega
theorem or_low (n c : Nat) (hc : c < 256) : n * 256 ||| c = n * 256 + c := by
  have := Nat.two_pow_add_eq_or_of_lt (i := 8) hc n
  rw [Nat.mul_comm n 256]
  exact this.symm
/-- the bytes of a number, the most significant first -/
def put (n : Nat) : Nat → List Nat
  | 0 => []
  | k + 1 => put (n / 256) k ++ [n % 256]
theorem put_len (n k : Nat) : (put n k).length = k := by
  induction k generalizing n with
  | zero => rfl
  | succ k ih => simp [put, ih]
theorem put_byte (n k : Nat) : ∀ z ∈ put n k, z < 256 := by
  induction k generalizing n with
  | zero => simp [put]
  | succ k ih =>
    intro z hz
    simp only [put, List.mem_append, List.mem_singleton] at hz
    rcases hz with h | rfl
    · exact ih _ z h
    · omega
theorem put_get (n k i : Nat) (h : i < k) : (put n k).getD i 0 = n / 256 ^ (k - 1 - i) % 256 := by
  induction k generalizing n with
  | zero => omega
  | succ k ih =>
    by_cases hi : i = k
    · subst hi
      simp [put, put_len]
    · have h1 : i < (put (n / 256) k).length := by rw [put_len]; omega
      simp only [put, List.getD_eq_getElem?_getD, List.getElem?_append_left h1]
      have := ih (n / 256) (by omega)
      rw [List.getD_eq_getElem?_getD] at this
      rw [this, Nat.div_div_eq_div_mul, show k + 1 - 1 - i = (k - 1 - i) + 1 by omega, Nat.pow_succ, Nat.mul_comm (256 ^ _) 256]
/-- the first byte ahead -/
theorem put_head (n k : Nat) : put n (k + 1) = (n / 256 ^ k % 256) :: put n k := by
  induction k generalizing n with
  | zero => simp [put]
  | succ k ih =>
    rw [put, ih (n / 256)]
    rw [show put n (k + 1) = put (n / 256) k ++ [n % 256] from rfl]
    rw [Nat.div_div_eq_div_mul, ← Nat.pow_succ', List.cons_append]
theorem num_put (n k : Nat) : num 0 (put n k) = n % 256 ^ k := by
  induction k generalizing n with
  | zero => simp [put, num, Nat.mod_one]
  | succ k ih =>
    have e : num 0 (put (n / 256) k ++ [n % 256]) = num 0 (put (n / 256) k) * 256 + n % 256 := by
      unfold num; rw [List.foldl_append]; rfl
    rw [put, e, ih, Nat.pow_succ, Nat.mul_comm (256 ^ k) 256, Nat.mod_mul]
    omega
end Go.Proofs.Ytpppffgchgcghaa.Numm
namespace Go.Proofs.Ytpppffgchgcghaa
open Go.RowKit

theorem get_step (N c : Nat) (hN : N < 72057594037927936) (hc : c < 256) : bits .or .u64 ((N : Int) * 256) (c : Int) = ((N * 256 + c : Nat) : Int) := by
  rw [show ((N : Int) * 256) = ((N * 256 : Nat) : Int) by omega, u64_or_nat _ _ (by omega) (by omega), Numm.or_low _ _ hc]

theorem word_val (x0 x1 x2 x3 : Nat) (h0 : x0 < 256) (h1 : x1 < 256) (h2 : x2 < 256) (h3 : x3 < 256) :
    bits .or .u32 (bits .or .u32 (bits .or .u32 ((x0 : Int) * 16777216) ((x1 : Int) * 65536)) ((x2 : Int) * 256)) (x3 : Int) = ((Numm.num 0 [x0, x1, x2, x3] : Nat) : Int) := by
  have e : Numm.num 0 [x0, x1, x2, x3] = x0 * 16777216 + x1 * 65536 + x2 * 256 + x3 := by simp [Numm.num]; omega
  have f1 := Nat.two_pow_add_eq_or_of_lt (i := 24) (b := x1 * 65536) (by omega) x0
  have f2 := Nat.two_pow_add_eq_or_of_lt (i := 16) (b := x2 * 256) (by omega) (x0 * 256 + x1)
  have f3 := Nat.two_pow_add_eq_or_of_lt (i := 8) (b := x3) (by omega) (x0 * 65536 + x1 * 256 + x2)
  have g1 : x0 * 16777216 ||| x1 * 65536 = x0 * 16777216 + x1 * 65536 := by rw [show x0 * 16777216 = 2 ^ 24 * x0 by omega, ← f1]
  have g2 : (x0 * 16777216 + x1 * 65536) ||| x2 * 256 = x0 * 16777216 + x1 * 65536 + x2 * 256 := by rw [show x0 * 16777216 + x1 * 65536 = 2 ^ 16 * (x0 * 256 + x1) by omega, ← f2]
  have g3 : (x0 * 16777216 + x1 * 65536 + x2 * 256) ||| x3 = x0 * 16777216 + x1 * 65536 + x2 * 256 + x3 := by rw [show x0 * 16777216 + x1 * 65536 + x2 * 256 = 2 ^ 8 * (x0 * 65536 + x1 * 256 + x2) by omega, ← f3]
  rw [show ((x0 : Int) * 16777216) = ((x0 * 16777216 : Nat) : Int) by omega, show ((x1 : Int) * 65536) = ((x1 * 65536 : Nat) : Int) by omega, show ((x2 : Int) * 256) = ((x2 * 256 : Nat) : Int) by omega]
  rw [u32_or_nat _ _ (by omega) (by omega), g1, u32_or_nat _ _ (by omega) (by omega), g2, u32_or_nat _ _ (by omega) (by omega), g3, e]
theorem word_ret {a b : Int} (h : a = b) : Ending.returned (.tuple #[.int .u32 a, .bool true]) = .returned (.tuple #[.int .u32 b, .bool true]) := by rw [h]
end Go.Proofs.Ytpppffgchgcghaa
namespace Go.Proofs.Ytpppffgchgcghaa
open Go.RowKit

def row (n m k : Nat) : List Nat := List.replicate (n - k) 0 ++ Numm.put m k
theorem row_len (n m k : Nat) (h : k ≤ n) : (row n m k).length = n := by simp [row, Numm.put_len]; omega
theorem row_next (n m k : Nat) (h : k < n) : (row n m k).set (n - 1 - k) (m / 256 ^ k % 256) = row n m (k + 1) := by
  unfold row
  rw [Numm.put_head, show n - k = (n - 1 - k) + 1 by omega, List.replicate_succ', List.append_assoc, show n - (k + 1) = n - 1 - k by omega]
  rw [List.set_append_right _ _ (by simp)]
  simp

theorem row_zero (n m : Nat) : row n m 0 = List.replicate n 0 := by simp [row, Numm.put]
theorem made_zero (n : Nat) : (madeCells #[Value.int IntKind.u8 0] n).toList = cellsOf (List.replicate n 0) := by
  apply List.ext_getElem
  · simp [madeCells, cellsOf]
  · intro i h1 h2
    simp [madeCells, cellsOf, Nat.mod_one]
theorem put_cell (m k : Nat) : Value.int IntKind.u8 ((m : Int) / 2 ^ (8 * k) % 256) = Value.int IntKind.u8 ((m / 256 ^ k % 256 : Nat) : Int) := by
  congr 1
  rw [show (2 : Int) ^ (8 * k) = ((256 ^ k : Nat) : Int) by rw [Int.pow_mul, Int.natCast_pow]; rfl]
  omega
theorem row_stored {w : World} {B g n m k : Nat} (h : w.ownsRow B 5 1 (.slice (some ⟨g, 0, none⟩) n n) n (cellsOf (row n m k))) (hk : k < n) :
    (w.setCell ⟨g, n - 1 - k, none⟩ (.int .u8 ((m : Int) / 2 ^ (8 * k) % 256))).ownsRow B 5 1 (.slice (some ⟨g, 0, none⟩) n n) n (cellsOf (row n m (k + 1))) := by
  have := (h.stored (n - 1 - k) (.int .u8 ((m / 256 ^ k % 256 : Nat) : Int))).1
  rw [put_cell, ← row_next n m k hk]
  rw [show cellsOf ((row n m k).set (n - 1 - k) (m / 256 ^ k % 256)) = (cellsOf (row n m k)).set (n - 1 - k) (.int .u8 ((m / 256 ^ k % 256 : Nat) : Int)) by simp [cellsOf, List.map_set]]
  exact this

/-- the first k bytes of n -/
def puts (m n k : Nat) : List Nat := (Numm.put m n).take k
theorem puts_next (m n k : Nat) (h : k < n) : puts m n k ++ [m / 256 ^ (n - 1 - k) % 256] = puts m n (k + 1) := by
  unfold puts
  rw [take_snoc _ k (by rw [Numm.put_len]; exact h)]
  have e := Numm.put_get m n k h
  rw [getD_at _ k (by rw [Numm.put_len]; exact h)] at e
  rw [e]

end Go.Proofs.Ytpppffgchgcghaa
namespace Go.Proofs.Ytpppffgchgcghaa
set_option linter.unusedVariables false
open Go.RowKit

def hexd (d : Nat) : Nat := if d < 10 then 48 + d else 87 + d
def hex (zs : List Nat) : List Nat := zs.flatMap fun z => [hexd (z / 16), hexd (z % 16)]
theorem hex_snoc (zs : List Nat) (z : Nat) : hex (zs ++ [z]) = hex zs ++ [hexd (z / 16), hexd (z % 16)] := by simp [hex]
theorem hex_len (zs : List Nat) : (hex zs).length = 2 * zs.length := by
  induction zs with
  | nil => rfl
  | cons z zs ih => simp only [hex, List.flatMap_cons, List.length_append, List.length_cons, List.length_nil] at *; omega
theorem hexd_byte (d : Nat) (h : d < 16) : hexd d < 256 := by unfold hexd; split <;> omega
theorem hex_byte (zs : List Nat) (hz : ∀ z ∈ zs, z < 256) : ∀ c ∈ hex zs, c < 256 := by
  intro c hc
  simp only [hex, List.mem_flatMap] at hc
  obtain ⟨z, hm, hc⟩ := hc
  have := hz z hm
  have h1 := hexd_byte (z / 16) (by omega)
  have h2 := hexd_byte (z % 16) (by omega)
  simp at hc
  rcases hc with rfl | rfl <;> assumption

def RetS (B : Nat) (s : ByteArray) (w : World) (e : Ending) (w' : World) : Prop := e = .returned (.string s) ∧ Below B w w'

def digits : ByteArray := { data := #[48, 49, 50, 51, 52, 53, 54, 55, 56, 57, 97, 98, 99, 100, 101, 102] }
def DigAt (d : Nat) : Prop := ∀ w : World, (Instr.index 9 (.string { data := #[48, 49, 50, 51, 52, 53, 54, 55, 56, 57, 97, 98, 99, 100, 101, 102] }) (.int .u8 (d : Int))).run Try.prog w = .ok (.int .u8 ((hexd d : Nat) : Int)) w
theorem dig_at (d : Nat) (h : d < 16) : DigAt d := by
  have hall : ∀ e : Fin 16, DigAt e.val := by
    intro e w
    rcases e with ⟨e, he⟩
    obtain h0 | h0 | h0 | h0 | h0 | h0 | h0 | h0 | h0 | h0 | h0 | h0 | h0 | h0 | h0 | h0 : e = 0 ∨ e = 1 ∨ e = 2 ∨ e = 3 ∨ e = 4 ∨ e = 5 ∨ e = 6 ∨ e = 7 ∨ e = 8 ∨ e = 9 ∨ e = 10 ∨ e = 11 ∨ e = 12 ∨ e = 13 ∨ e = 14 ∨ e = 15 := by omega
    all_goals (subst h0; kernel_rfl)
  exact hall ⟨d, h⟩
theorem and15 (c : Nat) (h : c < 256) : bits .and .u8 (c : Int) 15 = ((c % 16 : Nat) : Int) := by
  rw [show (15 : Int) = ((15 : Nat) : Int) by rfl, u8_and_nat _ _ h (by omega)]
  congr 1
  exact Nat.and_two_pow_sub_one_eq_mod c 4

end Go.Proofs.Ytpppffgchgcghaa
namespace Go.Proofs.Ytpppffgchgcghaa
open Go.RowKit

end Go.Proofs.Ytpppffgchgcghaa
namespace Go.Proofs.Ytpppffgchgcghaa
open Go.RowKit

theorem take_step {xs ys : List Nat} {k : Nat} (h1 : k < xs.length) (h2 : k < ys.length) (h : xs.take k = ys.take k) (he : xs[k] = ys[k]) : xs.take (k + 1) = ys.take (k + 1) := by
  rw [take_snoc xs k h1, take_snoc ys k h2, h, he]

end Go.Proofs.Ytpppffgchgcghaa
namespace Go.Proofs.Ytpppffgchgcghaa
theorem bulk_pos {H : Type} (d : DataW H) : 0 < Rows.uptoBulk d := by
  cases d with
  | lit l => cases l <;> simp [Rows.uptoBulk]
  | _ => simp [Rows.uptoBulk]
theorem bulk_count {H : Type} (l : List (DataW H)) : l.length ≤ Rows.uptoBulkAll l := by
  induction l with
  | nil => exact Nat.zero_le _
  | cons d r ih => have := bulk_pos d; simp only [List.length_cons, Rows.uptoBulkAll]; omega
theorem bulk_mem {H : Type} {d : DataW H} {l : List (DataW H)} (h : d ∈ l) : Rows.uptoBulk d ≤ Rows.uptoBulkAll l := by
  induction h with
  | head r => simp only [Rows.uptoBulkAll]; omega
  | tail b _ ih => simp only [Rows.uptoBulkAll]; omega
theorem bulk_all {H : Type} {l : List (DataW H)} (h : Rows.uptoSmall H l = true) : Rows.uptoBulkAll l ≤ 1048576 := of_decide_eq_true h
theorem bulk_slice {H : Type} {elems spare l : List (DataW H)} (h : Rows.uptoSmall H l = true) (hm : DataW.slice elems spare ∈ l) : elems.length + spare.length ≤ 1048576 := by
  have h1 := bulk_all h
  have h2 := bulk_mem hm
  have h3 := bulk_count elems
  have h4 := bulk_count spare
  simp only [Rows.uptoBulk] at h2
  omega
theorem bulk_string {H : Type} {bytes : List UInt8} {l : List (DataW H)} (h : Rows.uptoSmall H l = true) (hm : DataW.lit (.string bytes) ∈ l) : bytes.length ≤ 1048576 := by
  have h1 := bulk_all h
  have h2 := bulk_mem hm
  simp only [Rows.uptoBulk] at h2
  omega
end Go.Proofs.Ytpppffgchgcghaa
namespace Go.Proofs.Ytpppffgchgcghaa
open Go.RowKit

theorem own : ownKnob Try.prog.godebug = none := by kernel_rfl
theorem laidOut : laidOutB Try.prog = true := by kernel_rfl
theorem bytes1 : Try.prog.bytesOf 5 = 1 := by kernel_rfl

/-- a list of bytes that came in -/
def BytesIn (W : World) (a : Option Addr) (len cap : Nat) (zs : List Nat) : Prop :=
  Rd W a len zs ∧ (a = none → cap = 0) ∧ len ≤ cap ∧ cap ≤ 140737488351232

theorem bytesIn_nil (W : World) : BytesIn W none 0 0 [] := ⟨⟨rfl, by simp, .inl rfl⟩, fun _ => rfl, Nat.le_refl _, by omega⟩
theorem bytesIn_some {W : World} {x : Addr} {len cap : Nat} {zi : List Int} (hl : len ≤ cap) (hz : zi.length = cap) (hcap : cap ≤ 140737488351232)
    (hcell : ∀ i, i < zi.length → W.cell? (x.add i) = some (.int .u8 (zi.getD i 0))) (hwz : ∀ n ∈ zi, (Lit.int .u8 n).wf = true) : BytesIn W (some x) len cap ((zi.take len).map Int.toNat) := by
  have hb : ∀ n ∈ zi, 0 ≤ n ∧ n ≤ 255 := fun n hn => by
    have := hwz n hn
    simpa [Lit.wf, IntKind.min, IntKind.max, IntKind.signed, IntKind.bits] using this
  refine ⟨⟨by simp; omega, ?_, ?_⟩, by simp, hl, hcap⟩
  · intro z hm
    simp only [List.mem_map] at hm
    obtain ⟨n, hn, rfl⟩ := hm
    have := hb n (List.mem_of_mem_take hn)
    omega
  · by_cases h0 : len = 0
    · exact .inl h0
    · obtain ⟨b, off, spot⟩ := x
      have hspot : spot = none := by simpa [Addr.add] using World.cell?_spot (hcell 0 (by omega))
      subst hspot
      have h00 := hcell 0 (by omega)
      rw [show Addr.add ⟨b, off, none⟩ 0 = ⟨b, off, none⟩ by simp [Addr.add]] at h00
      refine .inr ⟨b, off, rfl, World.block_lt_of_cell? W ⟨b, off, none⟩ h00, fun i hi => ?_⟩
      have hc := hcell i (by omega)
      rw [show Addr.add ⟨b, off, none⟩ i = ⟨b, off + i, none⟩ by simp [Addr.add]] at hc
      rw [hc]
      have hi2 : i < zi.length := by omega
      have hge := hb zi[i] (List.getElem_mem _)
      have e1 : zi.getD i 0 = zi[i] := by simp [hi2]
      have e2 : ((zi.take len).map Int.toNat).getD i 0 = zi[i].toNat := by simp [hi, hi2]
      rw [e1, e2]
      congr 2
      omega
end Go.Proofs.Ytpppffgchgcghaa
