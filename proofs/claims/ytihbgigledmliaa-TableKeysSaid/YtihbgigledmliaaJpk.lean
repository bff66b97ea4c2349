/-
  Frames of records, on plain lists: what a record's frame is, which records bytes begin with, and that a frame of which one byte behind its length is another one is none. The walks over slices.Grow of nil and slices.Concat at bytes, and over a record's frame. Copying into a row that is owned; an operation of a region by its run. The walk over a record's frame. The walk over the first frame of bytes (journal.first), and bytes.Equal. Rows of byte slices: what they hold, appending to them; records in blocks of their own. What the arguments of a law give its walk: lists of byte slices that came in. Rows of numbers that the call owns; appends that leave another row as it is. Records laid behind one another, plain: what is scanned where one byte is another one. The walk over small of layer 10's laws; slices of rows of slices. The walks over the document's Same and Begins of rows of slices, where they are.
-/
import Derived.Test.YtihbgigledmliaaPka
import Derived.Test.YtihbgigledmliaaCct
import Derived.Test.YtihbgigledmliaaCrcm
import Derived.Test.YtihbgigledmliaaCrc
import Derived.Lib.AppendZerosOnto
import Derived.Test.YtihbgigledmliaaPkb
import Derived.Test.YtihbgigledmliaaShf
import Derived.Deep.Slices
namespace Go.Proofs.Ytihbgigledmliaa.Frm
open Go.Proofs.Ytihbgigledmliaa.Numm
set_option linter.unusedVariables false
def crcL (l : List Nat) : Nat := 4294967295 - Crcm.reg 4294967295 l
def frameL (p : List Nat) : List Nat := put p.length 4 ++ (put (crcL (put p.length 4 ++ p)) 4 ++ p)
theorem frame_len (p : List Nat) : (frameL p).length = 8 + p.length := by simp [frameL, put_len]; omega
theorem frame_byte (p : List Nat) (h : ∀ z ∈ p, z < 256) : ∀ z ∈ frameL p, z < 256 := by
  intro z hz
  simp only [frameL, List.mem_append] at hz
  rcases hz with hz | hz | hz
  · exact put_byte _ _ z hz
  · exact put_byte _ _ z hz
  · exact h z hz
theorem frame_drop (p : List Nat) : (frameL p).drop 8 = p := by
  unfold frameL
  rw [<- List.append_assoc, List.drop_append, List.drop_eq_nil_of_le (by simp [put_len]), List.nil_append]
  simp [put_len]
def wordL (b : List Nat) : Nat := num 0 [b.getD 0 0, b.getD 1 0, b.getD 2 0, b.getD 3 0]
def FirstOk (b : List Nat) : Prop := 8 ≤ b.length ∧ wordL b ≤ 1048576 ∧ wordL b + 8 ≤ b.length ∧ frameL ((b.drop 8).take (wordL b)) = b.take (8 + wordL b)
instance (b : List Nat) : Decidable (FirstOk b) := by unfold FirstOk; exact inferInstance
def firstL (b : List Nat) : Option (List Nat) := if FirstOk b then some ((b.drop 8).take (wordL b)) else none
theorem first_some {b p : List Nat} (h : firstL b = some p) : 8 + p.length ≤ b.length ∧ p.length = wordL b ∧ p.length ≤ 1048576 ∧ p = (b.drop 8).take (wordL b) ∧ frameL p = b.take (8 + p.length) := by
  unfold firstL at h
  split at h
  · rename_i hk
    obtain ⟨h1, h2, h3, h4⟩ := hk
    cases h
    have e : ((b.drop 8).take (wordL b)).length = wordL b := by simp; omega
    rw [e]
    exact ⟨by omega, rfl, h2, rfl, h4⟩
  · cases h
theorem first_none {b : List Nat} (h : ¬ FirstOk b) : firstL b = none := if_neg h
theorem first_yes {b : List Nat} (h : FirstOk b) : firstL b = some ((b.drop 8).take (wordL b)) := if_pos h
/-- the records that bytes begin with, and how many bytes these take -/
def scanF : Nat → List Nat → List (List Nat) × Nat
  | 0, _ => ([], 0)
  | f + 1, b => match firstL b with
    | none => ([], 0)
    | some p => (p :: (scanF f (b.drop (8 + p.length))).1, 8 + p.length + (scanF f (b.drop (8 + p.length))).2)
theorem first_short {b : List Nat} (h : b.length < 8) : firstL b = none := first_none fun hk => absurd hk.1 (by omega)
theorem scanF_fuel : ∀ (f g : Nat) (b : List Nat), b.length ≤ f → b.length ≤ g → scanF f b = scanF g b
  | 0, 0, _, _, _ => rfl
  | 0, g + 1, b, hf, hg => by rw [scanF, scanF, first_short (by omega)]
  | f + 1, 0, b, hf, hg => by rw [scanF, scanF, first_short (by omega)]
  | f + 1, g + 1, b, hf, hg => by
    rw [scanF, scanF]
    split
    · rfl
    · rename_i p hp
      obtain ⟨h1, _⟩ := first_some hp
      rw [scanF_fuel f g (b.drop (8 + p.length)) (by rw [List.length_drop]; omega) (by rw [List.length_drop]; omega)]
def scanL (b : List Nat) : List (List Nat) × Nat := scanF b.length b
theorem scan_none {b : List Nat} (h : firstL b = none) : scanL b = ([], 0) := by
  unfold scanL
  cases hb : b.length with
  | zero => rfl
  | succ n => rw [scanF, h]
theorem scan_some {b p : List Nat} (h : firstL b = some p) : scanL b = (p :: (scanL (b.drop (8 + p.length))).1, 8 + p.length + (scanL (b.drop (8 + p.length))).2) := by
  obtain ⟨h1, _⟩ := first_some h
  unfold scanL
  rw [scanF_fuel b.length (b.length + 1) b (by omega) (by omega), scanF, h]
  simp only
  rw [scanF_fuel b.length (b.drop (8 + p.length)).length (b.drop (8 + p.length)) (by rw [List.length_drop]; omega) (by omega)]
theorem scan_le : ∀ (n : Nat) (b : List Nat), b.length ≤ n → (scanL b).2 ≤ b.length
  | 0, b, hn => by rw [scan_none (first_short (by omega))]; exact Nat.zero_le _
  | n + 1, b, hn => by
    cases hf : firstL b with
    | none => rw [scan_none hf]; exact Nat.zero_le _
    | some p =>
      obtain ⟨h1, _⟩ := first_some hf
      rw [scan_some hf]
      have := scan_le n (b.drop (8 + p.length)) (by rw [List.length_drop]; omega)
      rw [List.length_drop] at this
      show 8 + p.length + _ ≤ _
      omega
theorem scan_recs_byte {b : List Nat} (hb : ∀ z ∈ b, z < 256) : ∀ (n : Nat) (c : List Nat), c.length ≤ n → (∀ z ∈ c, z < 256) → ∀ p ∈ (scanL c).1, ∀ z ∈ p, z < 256
  | 0, c, hn, _ => by rw [scan_none (first_short (by omega))]; simp
  | n + 1, c, hn, hc => by
    cases hf : firstL c with
    | none => rw [scan_none hf]; simp
    | some p =>
      obtain ⟨h1, h2, h3, h4, h5⟩ := first_some hf
      rw [scan_some hf]
      intro q hq
      rcases List.mem_cons.1 hq with rfl | hq
      · intro z hz
        rw [h4] at hz
        exact hc z (List.mem_of_mem_drop (List.mem_of_mem_take hz))
      · exact scan_recs_byte hb n _ (by rw [List.length_drop]; omega) (fun z hz => hc z (List.mem_of_mem_drop hz)) q hq
theorem four (l : List Nat) (a b c d : Nat) (rest : List Nat) (h : l = a :: b :: c :: d :: rest) : [l.getD 0 0, l.getD 1 0, l.getD 2 0, l.getD 3 0] = [a, b, c, d] := by subst h; rfl
theorem put4 (n : Nat) : ∃ a b c d, put n 4 = [a, b, c, d] := ⟨_, _, _, _, rfl⟩
theorem word_frame (p rest : List Nat) (h : p.length < 4294967296) : wordL (put p.length 4 ++ rest) = p.length := by
  obtain ⟨a, b, c, d, e⟩ := put4 p.length
  unfold wordL
  rw [four _ a b c d rest (by rw [e]; rfl), <- e, num_put, Nat.mod_eq_of_lt (by omega)]
theorem first_frame (p rest : List Nat) (h : p.length ≤ 1048576) : firstL (frameL p ++ rest) = some p := by
  have hw : wordL (frameL p ++ rest) = p.length := by
    unfold frameL
    rw [List.append_assoc]
    exact word_frame p _ (by omega)
  have hl := frame_len p
  have hd : ((frameL p ++ rest).drop 8).take p.length = p := by
    rw [List.drop_append_of_le_length (by omega), frame_drop]
    simp
  have hk : FirstOk (frameL p ++ rest) := by
    refine ⟨by rw [List.length_append]; omega, by rw [hw]; exact h, by rw [hw, List.length_append]; omega, ?_⟩
    rw [hw, hd, <- hl]
    simp
  rw [first_yes hk, hw, hd]
theorem scan_frame (p rest : List Nat) (h : p.length ≤ 1048576) : scanL (frameL p ++ rest) = (p :: (scanL rest).1, 8 + p.length + (scanL rest).2) := by
  rw [scan_some (first_frame p rest h), <- frame_len p]
  simp
/-- the register tells two beginnings apart -/
theorem byte_inj {c d z : Nat} (hc : c < 4294967296) (hd : d < 4294967296) (h : Crcm.byte c z = Crcm.byte d z) : c = d := by
  unfold Crcm.byte at h
  rw [Crcm.sN_xor, Crcm.sN_xor] at h
  have h1 : Crcm.sN 8 (c ^^^ d) = 0 := by
    rw [Crcm.sN_xor]
    have := congrArg (· ^^^ Crcm.sN 8 z) h
    simp only [Nat.xor_assoc, Nat.xor_self, Nat.xor_zero] at this
    rw [this, Nat.xor_self]
  by_cases h0 : c ^^^ d = 0
  · have := congrArg (· ^^^ d) h0
    simpa [Nat.xor_assoc] using this
  · exact absurd h1 (Crcm.sN_ne 8 _ (Nat.xor_lt_two_pow (n := 32) hc hd) h0)
theorem byte_lt {c z : Nat} (hc : c < 4294967296) (hz : z < 256) : Crcm.byte c z < 4294967296 := Crcm.sN_lt 8 _ (Nat.xor_lt_two_pow (n := 32) hc (by omega))
theorem reg_lt2 : ∀ (l : List Nat) (c : Nat), (∀ z ∈ l, z < 256) → c < 4294967296 → Crcm.reg c l < 4294967296
  | [], c, _, hc => hc
  | z :: l, c, h, hc => reg_lt2 l (Crcm.byte c z) (fun y hy => h y (by simp [hy])) (byte_lt hc (h z (by simp)))
theorem reg_inj : ∀ (l : List Nat) (c d : Nat), (∀ z ∈ l, z < 256) → c < 4294967296 → d < 4294967296 → Crcm.reg c l = Crcm.reg d l → c = d
  | [], c, d, _, _, _, h => h
  | z :: l, c, d, hl, hc, hd, h => byte_inj hc hd (reg_inj l _ _ (fun y hy => hl y (by simp [hy])) (byte_lt hc (hl z (by simp))) (byte_lt hd (hl z (by simp))) h)
theorem reg_append (c : Nat) (a b : List Nat) : Crcm.reg c (a ++ b) = Crcm.reg (Crcm.reg c a) b := by unfold Crcm.reg; rw [List.foldl_append]
theorem byte_ne {c x y : Nat} (hc : c < 4294967296) (hx : x < 256) (hy : y < 256) (h : x ≠ y) : Crcm.byte c x ≠ Crcm.byte c y := by
  intro he
  unfold Crcm.byte at he
  rw [Crcm.sN_xor, Crcm.sN_xor] at he
  have h1 : Crcm.sN 8 (x ^^^ y) = 0 := by
    rw [Crcm.sN_xor]
    have := congrArg (Crcm.sN 8 c ^^^ ·) he
    simp only [<- Nat.xor_assoc, Nat.xor_self, Nat.zero_xor] at this
    rw [this, Nat.xor_self]
  refine absurd h1 (Crcm.sN_ne 8 _ (Nat.xor_lt_two_pow (n := 32) (by omega) (by omega)) fun h0 => h ?_)
  have := congrArg (· ^^^ y) h0
  simpa [Nat.xor_assoc] using this
theorem crc_set (l : List Nat) (hl : ∀ z ∈ l, z < 256) (i y : Nat) (hi : i < l.length) (hy : y < 256) (h : l.getD i 0 ≠ y) : crcL (l.set i y) ≠ crcL l := by
  have hx : l.getD i 0 = l[i] := by simp [hi]
  rw [hx] at h
  have e1 : l = l.take i ++ l[i] :: l.drop (i + 1) := by simp
  have e2 : l.set i y = l.take i ++ y :: l.drop (i + 1) := by rw [List.set_eq_take_append_cons_drop, if_pos hi]
  have ht : ∀ z ∈ l.take i, z < 256 := fun z hz => hl z (List.mem_of_mem_take hz)
  have hd : ∀ z ∈ l.drop (i + 1), z < 256 := fun z hz => hl z (List.mem_of_mem_drop hz)
  have hr := reg_lt2 (l.take i) 4294967295 ht (by omega)
  have hli : l[i] < 256 := hl _ (List.getElem_mem hi)
  have key : Crcm.reg 4294967295 (l.set i y) ≠ Crcm.reg 4294967295 l := by
    intro he
    rw [e2, reg_append] at he
    rw [show Crcm.reg 4294967295 l = Crcm.reg 4294967295 (l.take i ++ l[i] :: l.drop (i + 1)) by rw [<- e1], reg_append] at he
    exact byte_ne hr hy hli (fun h' => h h'.symm) (reg_inj (l.drop (i + 1)) _ _ hd (byte_lt hr hy) (byte_lt hr hli) he)
  have g1 := reg_lt2 l 4294967295 hl (by omega)
  have g2 := reg_lt2 (l.set i y) 4294967295 (fun z hz => (List.mem_or_eq_of_mem_set hz).elim (hl z) (fun e => e ▸ hy)) (by omega)
  unfold crcL
  omega
theorem put_inj {a b : Nat} (ha : a < 4294967296) (hb : b < 4294967296) (h : put a 4 = put b 4) : a = b := by
  have := congrArg (num 0) h
  rw [num_put, num_put] at this
  omega
theorem crc_lt (l : List Nat) : crcL l < 4294967296 := by unfold crcL; omega
/-- a frame of which one byte behind the length is another one is no frame -/
theorem first_turned (p rest : List Nat) (hp : ∀ z ∈ p, z < 256) (h : p.length ≤ 1048576) (k y : Nat) (hk : 4 ≤ k) (hk2 : k < 8 + p.length) (hy : y < 256) (hne : (frameL p).getD k 0 ≠ y) : firstL ((frameL p).set k y ++ rest) = none := by
  refine first_none fun hf => ?_
  obtain ⟨h1, h2, h3, h4⟩ := hf
  have hl := frame_len p
  have hpl : (put p.length 4).length = 4 := put_len _ _
  have hset : (frameL p).set k y = put p.length 4 ++ ((put (crcL (put p.length 4 ++ p)) 4 ++ p).set (k - 4) y) := by
    unfold frameL
    rw [List.set_append_right _ _ (by omega), hpl]
  have hw : wordL ((frameL p).set k y ++ rest) = p.length := by
    rw [hset, List.append_assoc]
    exact word_frame p _ (by omega)
  rw [hw] at h4
  have hsl : ((frameL p).set k y).length = 8 + p.length := by rw [List.length_set, hl]
  rw [show ((frameL p).set k y ++ rest).take (8 + p.length) = (frameL p).set k y by rw [<- hsl]; simp] at h4
  have hd : (((frameL p).set k y ++ rest).drop 8).take p.length = ((frameL p).set k y).drop 8 := by
    rw [List.drop_append_of_le_length (by omega), List.take_append_of_le_length (by rw [List.length_drop]; omega), List.take_of_length_le (by rw [List.length_drop]; omega)]
  rw [hd] at h4
  by_cases h8 : k < 8
  · have e : ((frameL p).set k y).drop 8 = p := by rw [List.drop_set_of_lt h8, frame_drop]
    rw [e] at h4
    have := congrArg (fun l => l.getD k 0) h4
    simp only [List.getD_eq_getElem?_getD, List.getElem?_set_self (show k < (frameL p).length by omega)] at this
    exact hne (by rw [List.getD_eq_getElem?_getD]; exact this)
  · have e : ((frameL p).set k y).drop 8 = p.set (k - 8) y := by rw [List.drop_set, if_neg h8, frame_drop]
    rw [e, hset] at h4
    unfold frameL at h4
    rw [List.length_set] at h4
    have h5 := List.append_cancel_left h4
    have hq : (put (crcL (put p.length 4 ++ p)) 4).length = 4 := put_len _ _
    rw [List.set_append_right _ _ (by omega), hq] at h5
    have h6 := (List.append_inj h5 (by rw [put_len, put_len])).1
    have h7 := put_inj (crc_lt _) (crc_lt _) h6
    have hpk : p.getD (k - 8) 0 ≠ y := by
      intro hc
      apply hne
      have : (frameL p).getD k 0 = ((frameL p).drop 8).getD (k - 8) 0 := by
        rw [List.getD_eq_getElem?_getD, List.getD_eq_getElem?_getD, List.getElem?_drop]
        congr 2; omega
      rw [this, frame_drop]
      exact hc
    refine crc_set (put p.length 4 ++ p) (fun z hz => ?_) (k - 4) y (by rw [List.length_append, hpl]; omega) hy ?_ ?_
    · rcases List.mem_append.1 hz with hz | hz
      · exact put_byte _ _ z hz
      · exact hp z hz
    · rw [List.getD_eq_getElem?_getD, List.getElem?_append_right (by omega), hpl, show k - 4 - 4 = k - 8 by omega, <- List.getD_eq_getElem?_getD]
      exact hpk
    · rw [List.set_append_right _ _ (by omega), hpl, show k - 4 - 4 = k - 8 by omega]
      exact h7
end Go.Proofs.Ytihbgigledmliaa.Frm
namespace Go.Proofs.Ytihbgigledmliaa
open Go.RowKit
set_option linter.unusedVariables false

section
variable {P : Program} {ops : Array Oper} {Q : Exit → Act → World → Prop} {md : Region.Mode} {S : World → Prop}
/-- an operation that has no other beside it, by its run -/
theorem anyH_runG (i : Nat) {d : Option Tmp} {op : Op} {v : Value} {w' : World} {fuel : Nat} {listed : Array Bool} {a : Act} {w : World} (h0 : Region.ready md ops listed = [i])
    (hi : (ops[i]?.map fun o => (o.dst, o.op, o.guard)) = some (d, op, none)) (hr : ∀ o : Oper, o.op = op → (execOp a.eval o).run P w = .ok (.value v) w') (hS : S w')
    (h : wpAnyH P md ops Q S fuel (listed.setIfInBounds i true) (a.put d v) w') : wpAnyH P md ops Q S (fuel + 1) listed a w := by
  refine wpAnyH_all h0 (by simp) ?_
  intro k hk
  simp only [List.mem_cons, List.not_mem_nil, or_false] at hk
  subst hk
  cases ho : ops[k]? with
  | none => simp [ho] at hi
  | some o =>
    simp only [ho, Option.map_some, Option.some.injEq, Prod.mk.injEq] at hi
    obtain ⟨g1, g2, g3⟩ := hi
    unfold wpOp
    simp only [ho, wanted_plain g3, if_true]
    refine .inl ?_
    unfold Oper.wp
    rw [hr o g2]
    rw [← g1] at h
    exact ⟨hS, h⟩
end
theorem exec_copy {P : Program} {a : Act} {o : Oper} {w w' : World} {x y : Operand} {t s : TypeId} {v u r : Value} (ho : o.op = .call { callee := .builtin .copy, args := #[x, y], argTypes := #[t, s] }) (hx : a.eval x = v) (hy : a.eval y = u)
    (hr : (Builtin.copy_ #[t, s] o.type #[v, u]).run P w = .ok r w') : (execOp a.eval o).run P w = .ok (.value r) w' := by
  unfold execOp
  simp only [ho]
  rw [Sem.run_bind]
  unfold resolve
  simp only [Sem.run_pure, Result.andThen_ok, invoke, builtin, List.map_toArray, List.map_cons, List.map_nil, hx, hy]
  rw [Sem.run_bind, hr]
  rfl
theorem exec_cut4 {L c : Nat} (hL : 4 ≤ L) (hc : 4 < c) (g : Nat) (a : Act) {x : Operand} (hx : a.eval x = .slice (some ⟨g, 0, none⟩) L c) (o : Oper) (ho : o.op = .slice 41 x (some (.const (.int .i64 4))) none none) (W : World) :
    (execOp a.eval o).run Try.prog W = .ok (.value (.slice (some ⟨g, 4, none⟩) (L - 4) (c - 4))) W := by
  unfold execOp
  simp only [ho, hx, Option.map_none, Option.map_some, show a.eval (.const (.int .i64 4)) = .int .i64 ((4 : Nat) : Int) from rfl, run_cutAt W _ L c 4 hL, Sem.run_bind, Result.andThen_ok, Sem.run_pure]
  rw [show sla (some ⟨g, 0, none⟩) c 4 = some ⟨g, 4, none⟩ by unfold sla; rw [if_neg (by omega)]; rfl]
/-- a frame that is being made: its bytes, and what was there -/
structure FrmW (w : World) (g L c : Nat) (Z : List Nat) (W : World) : Prop where
  own : Own W w.heap.size (.slice (some ⟨g, 0, none⟩) L c) Z
  len : Z.length = L
  byte : ∀ z ∈ Z, z < 256
  below : Below w.heap.size w W
def FrmS (w : World) (g L c : Nat) (W : World) : Prop := ∃ Z, FrmW w g L c Z W
theorem FrmW.held {w W : World} {g L c : Nat} {Z : List Nat} (h : FrmW w g L c Z W) : FrmS w g L c W := ⟨Z, h⟩
theorem FrmW.step {w W W' : World} {g L c : Nat} {Z : List Nat} (h : FrmW w g L c Z W) (hb : Below W.heap.size W W') : FrmW w g L c Z W' := ⟨h.own.keep hb, h.len, h.byte, h.below.trans (hb.mono h.below.size)⟩
theorem FrmW.drew {w W : World} {g L c : Nat} {Z : List Nat} (h : FrmW w g L c Z W) : FrmW w g L c Z W.drew := h.step (below_drewN' _ W 1)
theorem own_open {W : World} {B g L c : Nat} {Z : List Nat} (h : Own W B (.slice (some ⟨g, 0, none⟩) L c) Z) (hl : Z.length = L) : ∃ cur : Array Value, B ≤ g ∧ W.heap[g]? = some (.cells cur 5 (0, 0)) ∧ L ≤ c ∧ c ≤ 9223372036854775807 ∧ cur.size = c ∧ cur.toList.take L = cellsOf Z := by
  rcases h.2 with ⟨h0, _⟩ | ⟨g', cap, cur, hv, hb, hh, hn, hm, hs, ht⟩
  · cases h0
  · cases hv
    rw [hl] at hn
    rw [hl, Nat.mul_one] at ht
    exact ⟨cur, hb, hh, hn, hm, by rw [hs, Nat.mul_one], ht⟩
theorem own_shut {W : World} {B g L c : Nat} {Z : List Nat} {cur : Array Value} (hl : Z.length = L) (hb : B ≤ g) (hh : W.heap[g]? = some (.cells cur 5 (0, 0))) (hn : L ≤ c) (hm : c ≤ 9223372036854775807) (hs : cur.size = c) (ht : cur.toList.take L = cellsOf Z) : Own W B (.slice (some ⟨g, 0, none⟩) L c) Z := by
  subst hl
  exact ⟨by rw [cellsOf_length, Nat.mul_one], .inr ⟨g, c, cur, rfl, hb, hh, hn, hm, by rw [hs, Nat.mul_one], by rw [Nat.mul_one]; exact ht⟩⟩
theorem frm_copy {w W : World} {g L c : Nat} {Z P : List Nat} {a2 : Option Addr} (h : FrmW w g L c Z W) (hr : Rd W a2 4 P) (h8 : 8 ≤ L) (c2 : Nat) :
    ∃ W3, (∀ ty, (Builtin.copy_ #[41, 41] ty #[.slice (some ⟨g, 4, none⟩) (L - 4) (c - 4), .slice a2 4 c2]).run Try.prog W = .ok (.int .i64 4) W3) ∧ FrmW w g L c (Z.take 4 ++ (P ++ Z.drop 8)) W3 := by
  obtain ⟨i0, hi, hz0, hz1, hz2⟩ := info_parts byteInfo
  obtain ⟨cur, hbg, hh, hn, hm, hs, ht⟩ := own_open h.own h.len
  obtain ⟨hp, hpb, hcell⟩ := hr
  obtain ⟨b, off, rfl, hb, hcell⟩ := hcell.resolve_left (by omega)
  have hct : cur.toList.length = c := by rw [Array.length_toList, hs]
  have hzl := h.len
  have hcs : (cellsOf P).length = 4 := by rw [cellsOf_length, hp]
  refine ⟨W.setRow g (cur.toList.take 4 ++ cellsOf P ++ cur.toList.drop (4 + 4)).toArray, fun ty => ?_, ?_⟩
  · have hrun := run_copy_row (P := Try.prog) W 41 41 ty 5 g 4 (L - 4) (c - 4) ⟨b, off, none⟩ 4 c2 cur 5 (cellsOf P) Try.underlying41 (by rw [hi]; simp [hz1]) hh (by rw [hcs]; show 4 = min 4 (L - 4); omega)
      (fun j v hj => by
        have hjl : j < 4 := by rw [← hcs]; exact (List.getElem?_eq_some_iff.1 hj).1
        rw [cellsOf_get P j (by omega)] at hj
        cases hj
        rw [Addr.add_mid]
        exact hcell j hjl) (by rw [hcs]; omega) (cellsOf_one P)
    rw [hcs] at hrun
    exact hrun
  · refine ⟨own_shut ?_ hbg (setRow_heap W g cur _ 5 (0, 0) hh) hn hm ?_ ?_, ?_, ?_, h.below.setRow hbg _⟩
    · simp only [List.length_append, List.length_take, List.length_drop, hp]; omega
    · simp only [List.size_toArray, List.length_append, List.length_take, List.length_drop, hcs, hct]; omega
    · rw [List.toList_toArray, cellsOf_append, cellsOf_append]
      have e1 : cellsOf (Z.take 4) = cur.toList.take 4 := by
        have := congrArg (List.take 4) ht
        rw [List.take_take, Nat.min_eq_left (by omega)] at this
        rw [this]; simp [cellsOf, List.map_take]
      have e2 : cellsOf (Z.drop 8) = (cur.toList.drop 8).take (L - 8) := by
        have := congrArg (List.drop 8) ht
        rw [List.drop_take] at this
        rw [this]; simp [cellsOf, List.map_drop]
      rw [e1, e2, ← List.append_assoc]
      have hl8 : (cur.toList.take 4 ++ cellsOf P).length = 8 := by rw [List.length_append, List.length_take, hcs, hct]; omega
      obtain ⟨X, hX⟩ : ∃ X, X = cur.toList.take 4 ++ cellsOf P := ⟨_, rfl⟩
      rw [← hX] at hl8 ⊢
      rw [List.take_append, List.take_of_length_le (by omega), hl8]
    · simp only [List.length_append, List.length_take, List.length_drop, hp]; omega
    · intro z hz
      simp only [List.mem_append] at hz
      rcases hz with hz | hz | hz
      · exact h.byte z (List.mem_of_mem_take hz)
      · exact hpb z hz
      · exact h.byte z (List.mem_of_mem_drop hz)
theorem own_base {W : World} {B B' : Nat} {v : Value} {Z : List Nat} (h : Own W B v Z) (hb : B' ≤ B) : Own W B' v Z := by
  refine ⟨h.1, ?_⟩
  rcases h.2 with h0 | ⟨g, cap, cur, h1, h2, h3, h4⟩
  · exact .inl h0
  · exact .inr ⟨g, cap, cur, h1, by omega, h3, h4⟩
end Go.Proofs.Ytihbgigledmliaa
namespace Go.Proofs.Ytihbgigledmliaa
open Go.RowKit
set_option linter.unusedVariables false
theorem wrap_u64_nat (K : Nat) (h : K < 18446744073709551616) : IntKind.u64.wrap (K : Int) = (K : Int) := by
  have e : IntKind.u64.wrap (K : Int) = (K : Int) % 18446744073709551616 := by simp [IntKind.wrap, IntKind.bits, IntKind.signed]
  rw [e]
  omega
def hdr (w : World) (x y z : Value) : World := w.alloc (.cells #[x, y, z] 41)
set_option maxRecDepth 100000 in
set_option maxHeartbeats 4000000 in
/-- journal.Frame: the record's frame, in new memory -/
theorem frame_c (a : Option Addr) (len cap : Nat) (p : List Nat) (w : World) (h : Rd w a len p) (hnil : a = none → cap = 0) (hm : len ≤ 140737488355000) :
    Calls Try.prog 56 #[.slice a len cap] w (RetB w.heap.size w (Frm.frameL p)) := by
  have hpl := h.1
  have HP := Lib.hid h
  have HNIL := Lib.hid hnil
  obtain ⟨N4, hN4⟩ : ∃ N4, N4 = Numm.put len 4 := ⟨_, rfl⟩
  have hNl : N4.length = 4 := by rw [hN4, Numm.put_len]
  have HNB := Lib.hid (show ∀ z ∈ N4, z < 256 from by rw [hN4]; exact Numm.put_byte _ _)
  have HPUT0 := Lib.hid ((put_in len 4 w (by omega) (by omega)).mono (RetB.form (Numm.put_byte _ _)))
  rw [← hN4] at HPUT0
  obtain ⟨K, hK⟩ : ∃ K, K = Frm.crcL (N4 ++ p) := ⟨_, rfl⟩
  have HK32 := Lib.hid (show K < 4294967296 from by rw [hK]; exact Frm.crc_lt _)
  have HEND := Lib.hid (show Frm.frameL p = N4 ++ (Numm.put K 4 ++ p) from by rw [hK, hN4, ← hpl]; rfl)
  have HKE := Lib.hid (show 4294967295 - Crcm.reg 4294967295 (N4 ++ p) = K from hK.symm)
  have HNL := Lib.hid hNl
  have HPL := Lib.hid hpl
  clear h hnil hK hN4 hNl hpl
  go_enter Try.func56, Try.ntmps56
  go_wp2_with fail
  refine HPUT0.out.mono ?_
  rintro e1 w1 ⟨a1, L1, c1, rfl, hl1, hlc1, hcm1, hn1, hr1, ho1, hb1⟩
  have hL1 : L1 = 4 := by rw [← hl1, HNL.out]
  subst hL1
  have HR1 := Lib.hid hr1
  have HN1 := Lib.hid hn1
  have HB1 := Lib.hid hb1
  clear hl1 hlc1 hcm1 hn1 hr1 ho1 hb1 HPUT0
  have HH := Lib.hid (heap_alloc_new w1 (.cells #[.slice a1 4 c1, .slice a1 4 c1, .slice a len cap] 41))
  have HBH := Lib.hid (show Below w1.heap.size w1 (hdr w1 (.slice a1 4 c1) (.slice a1 4 c1) (.slice a len cap)) from (Below.refl _ _).alloc (Nat.le_refl _) _)
  have HCAT : Hid (Calls Try.prog 83 #[.slice (some ⟨w1.heap.size, 0, none⟩) 3 3] (hdr w1 (.slice a1 4 c1) (.slice a1 4 c1) (.slice a len cap)) (RetB (hdr w1 (.slice a1 4 c1) (.slice a1 4 c1) (.slice a len cap)).heap.size (hdr w1 (.slice a1 4 c1) (.slice a1 4 c1) (.slice a len cap)) (N4 ++ (N4 ++ p)))) := by
    have hc := concat_c [(a1, 4, c1, N4), (a1, 4, c1, N4), (a, len, cap, p)] w1.heap.size 3 3 (hdr w1 (.slice a1 4 c1) (.slice a1 4 c1) (.slice a len cap)) rfl (by omega) (by simp [hdr]) ?_ ?_ ?_
    · have e : catS [(a1, 4, c1, N4), (a1, 4, c1, N4), (a, len, cap, p)] = N4 ++ (N4 ++ p) := by simp [catS, slz]
      rw [e] at hc
      exact Lib.hid hc
    · intro i s hs
      have hcell : ∀ j, (hdr w1 (.slice a1 4 c1) (.slice a1 4 c1) (.slice a len cap)).cell? ⟨w1.heap.size, j, none⟩ = (#[Value.slice a1 4 c1, .slice a1 4 c1, .slice a len cap])[j]? := fun j => cell_of_row _ _ _ _ _ _ HH.out
      rw [hcell]
      match i, hs with
      | 0, hs => cases hs; rfl
      | 1, hs => cases hs; rfl
      | 2, hs => cases hs; rfl
      | i + 3, hs => simp at hs
    · intro s hs
      have h1 : SlOk (hdr w1 (.slice a1 4 c1) (.slice a1 4 c1) (.slice a len cap)) (a1, 4, c1, N4) := ⟨HR1.out.below HBH.out, HN1.out⟩
      have h2 : SlOk (hdr w1 (.slice a1 4 c1) (.slice a1 4 c1) (.slice a len cap)) (a, len, cap, p) := ⟨(HP.out.below HB1.out).below HBH.out, HNIL.out⟩
      simp only [List.mem_cons, List.not_mem_nil, or_false] at hs
      rcases hs with rfl | rfl | rfl
      · exact h1
      · exact h1
      · exact h2
    · have e : catS [(a1, 4, c1, N4), (a1, 4, c1, N4), (a, len, cap, p)] = N4 ++ (N4 ++ p) := by simp [catS, slz]
      rw [e]
      simp only [List.length_append, HNL.out, HPL.out]
      omega
  go_wp2_with fail
  refine HCAT.out.mono ?_
  rintro e2 w2 ⟨v2, rfl, ho2, hb2⟩
  have hbb : Below w.heap.size w w2 := (HB1.out.trans (HBH.out.mono HB1.out.size)).trans (hb2.mono (by have := HB1.out.size; have := HBH.out.size; omega))
  have hob : Own w2 w.heap.size v2 (N4 ++ (N4 ++ p)) := own_base ho2 (by have := HB1.out.size; have := HBH.out.size; omega)
  have hby : ∀ z ∈ N4 ++ (N4 ++ p), z < 256 := by
    intro z hz
    simp only [List.mem_append] at hz
    rcases hz with hz | hz | hz
    · exact HNB.out z hz
    · exact HNB.out z hz
    · exact HP.out.2.1 z hz
  have hZl : (N4 ++ (N4 ++ p)).length = len + 8 := by simp only [List.length_append, HNL.out, HPL.out]; omega
  have hform : ∃ g c, v2 = .slice (some ⟨g, 0, none⟩) (len + 8) c ∧ len + 8 ≤ c := by
    rcases hob.2 with ⟨_, h0⟩ | ⟨g, c, cur, rfl, _, _, hn, _⟩
    · omega
    · exact ⟨g, c, by rw [hZl], by omega⟩
  obtain ⟨g, c, rfl, hLc⟩ := hform
  obtain ⟨L, hL⟩ : ∃ L, L = len + 8 := ⟨_, rfl⟩
  rw [← hL] at hob hLc hZl ⊢
  have HS0 := Lib.hid (show FrmW w g L c (N4 ++ (N4 ++ p)) w2 from ⟨hob, hZl, hby, hbb⟩)
  have hZ8 : 8 ≤ L := by omega
  have hL4 : 4 ≤ L := by omega
  have hc4 : 4 < c := by omega
  have HS := Lib.hid HS0.out.drew
  have HCRC : Hid (∀ W, FrmW w g L c (N4 ++ (N4 ++ p)) W → Calls Try.prog 84 #[.slice (some ⟨g, 4, none⟩) (L - 4) (c - 4)] W fun e w' => e = .returned (.int .u32 (K : Int)) ∧ W = w') := Lib.hid fun W hW => by
    obtain ⟨a', cap', hv, _, _, hrd⟩ := hW.own.rd hW.byte
    rw [hW.len] at hrd hv
    cases hv
    have hd := hrd.drop 4
    rw [show (N4 ++ (N4 ++ p)).drop 4 = N4 ++ p by rw [List.drop_append_of_le_length (by rw [HNL.out]; exact Nat.le_refl _), List.drop_of_length_le (by rw [HNL.out]; exact Nat.le_refl _)]; rfl, Nat.zero_add] at hd
    have hc := crc_c (some ⟨g, 4, none⟩) (L - 4) (c - 4) (N4 ++ p) W hd (by omega)
    rw [HKE.out] at hc
    exact hc
  have HPUT : Hid (∀ W, Calls Try.prog 82 #[.int .u64 (K : Int), .int .i64 4] W (RetB W.heap.size W (Numm.put K 4))) := Lib.hid fun W => put_in K 4 W (by have := HK32.out; omega) (by omega)
  clear hob hbb hby hZl hL hLc ho2 hb2 HH HBH HCAT HR1 HN1 HB1
  have hwK : IntKind.u64.wrap (K : Int) = (K : Int) := wrap_u64_nat K (by have := HK32.out; omega)
  go_upto_region 3 with fail
  (try dsimp only [Act.put, List.setIfInBounds_toArray, List.set_cons_zero, List.set_cons_succ])
  refine anyH_begin (S := FrmS w g L c) (by kernel_rfl) ?_
  refine anyH_pureG 0 (d := 14) (op := .move (.tmp 4)) (gd := none) (.slice (some ⟨g, 0, none⟩) L c) (by rfl) (fun o ho => wanted_plain ho _) (by kernel_rfl) (by kernel_rfl) (by kernel_rfl) (fun _ _ _ h => h) (fun o ho W hW => by unfold execOp; simp only [ho]; go_simp) HS.out.held ?_
  simp only [Act.put, List.setIfInBounds_toArray, List.set_cons_zero, List.set_cons_succ]
  refine anyH_pureG 1 (d := 15) (op := .slice 41 (.tmp 14) (some (.const (.int .i64 4))) none none) (gd := none) (.slice (some ⟨g, 4, none⟩) (L - 4) (c - 4)) (by rfl) (fun o ho => wanted_plain ho _) (by kernel_rfl) (by kernel_rfl) (by kernel_rfl) (fun _ _ _ h => h) (fun o ho W hW => exec_cut4 hL4 hc4 g _ (by rfl) o ho W) HS.out.held ?_
  simp only [Act.put, List.setIfInBounds_toArray, List.set_cons_zero, List.set_cons_succ]
  refine anyH_pureG 2 (d := 16) (op := .move (.tmp 4)) (gd := none) (.slice (some ⟨g, 0, none⟩) L c) (by rfl) (fun o ho => wanted_plain ho _) (by kernel_rfl) (by kernel_rfl) (by kernel_rfl) (fun _ _ _ h => h) (fun o ho W hW => by unfold execOp; simp only [ho]; go_simp) HS.out.held ?_
  simp only [Act.put, List.setIfInBounds_toArray, List.set_cons_zero, List.set_cons_succ]
  refine anyH_pureG 3 (d := 17) (op := .slice 41 (.tmp 16) (some (.const (.int .i64 4))) none none) (gd := none) (.slice (some ⟨g, 4, none⟩) (L - 4) (c - 4)) (by rfl) (fun o ho => wanted_plain ho _) (by kernel_rfl) (by kernel_rfl) (by kernel_rfl) (fun _ _ _ h => h) (fun o ho W hW => exec_cut4 hL4 hc4 g _ (by rfl) o ho W) HS.out.held ?_
  simp only [Act.put, List.setIfInBounds_toArray, List.set_cons_zero, List.set_cons_succ]
  refine anyH_callG 4 (d := some 18) (f := 84) (xs := #[(.tmp 17)]) (ts := #[41]) (gd := none) (vs := #[.slice (some ⟨g, 4, none⟩) (L - 4) (c - 4)]) (by kernel_rfl) (by rfl) (fun o ho => wanted_plain ho _) (by go_simp) (by go_simp) (HCRC.out _ HS.out) ?_
  rintro e W1 ⟨rfl, hW1⟩
  subst hW1
  refine ⟨_, rfl, HS.out.held, fun _ => ?_⟩
  simp only [Act.put, List.setIfInBounds_toArray, List.set_cons_zero, List.set_cons_succ]
  refine anyH_pureG 5 (d := 19) (op := .convert 116 85 (.tmp 18)) (gd := none) (.int .u64 (K : Int)) (by rfl) (fun o ho => wanted_plain ho _) (by kernel_rfl) (by kernel_rfl) (by kernel_rfl) (fun _ _ _ h => h) (fun o ho W hW => by unfold execOp; simp only [ho]; go_simp; try exact hwK) HS.out.held ?_
  simp only [Act.put, List.setIfInBounds_toArray, List.set_cons_zero, List.set_cons_succ]
  refine anyH_callG 6 (d := some 20) (f := 82) (xs := #[(.tmp 19), (.const (.int .i64 4))]) (ts := #[85, 3]) (gd := none) (vs := #[.int .u64 (K : Int), (.int .i64 4)]) (by kernel_rfl) (by rfl) (fun o ho => wanted_plain ho _) (by go_simp) (by go_simp) ((HPUT.out _).mono (RetB.form (Numm.put_byte _ _))) ?_
  rintro e W2 ⟨a2, L2, c2, rfl, hl2, hlc2, hcm2, hn2, hr2, ho2, hb2⟩
  have HR2 := Lib.hid hr2
  have HS2 := Lib.hid (HS.out.step hb2)
  have hL2 : L2 = 4 := by rw [← hl2, Numm.put_len]
  clear hl2 hlc2 hcm2 hn2 hr2 ho2 hb2
  subst hL2
  refine ⟨_, rfl, HS2.out.held, fun _ => ?_⟩
  simp only [Act.put, List.setIfInBounds_toArray, List.set_cons_zero, List.set_cons_succ]
  obtain ⟨W3, hrun, HS3⟩ := frm_copy HS2.out HR2.out hZ8 c2
  refine anyH_runG 7 (d := some 21) (op := .call { callee := .builtin .copy, args := #[(.tmp 15), (.tmp 20)], argTypes := #[41, 41] }) (v := .int .i64 4) (w' := W3) (by kernel_rfl) (by rfl) (fun o ho => ?_) HS3.held ?_
  · exact exec_copy ho (by rfl) (by rfl) (hrun o.type)
  simp only [Act.put, List.setIfInBounds_toArray, List.set_cons_zero, List.set_cons_succ]
  refine wpAnyH_done (by kernel_rfl) ?_ _
  have HF := Lib.hid (show FrmW w g L c (Frm.frameL p) W3 from by
    have h := HS3
    rw [HEND.out]
    have e1 : (N4 ++ (N4 ++ p)).take 4 = N4 := by rw [List.take_append_of_le_length (by rw [HNL.out]; exact Nat.le_refl _), List.take_of_length_le (by rw [HNL.out]; exact Nat.le_refl _)]
    have e2 : (N4 ++ (N4 ++ p)).drop 8 = p := by
      rw [← List.append_assoc, List.drop_append_of_le_length (by simp only [List.length_append, HNL.out]; omega), List.drop_of_length_le (by simp only [List.length_append, HNL.out]; omega)]; rfl
    rw [e1, e2] at h
    exact h)
  clear HS3 hrun HS2 HR2 HS HS0
  go_wp2_with fail
  go_ret
  exact ⟨_, rfl, HF.out.own, HF.out.below⟩
end Go.Proofs.Ytihbgigledmliaa
namespace Go.Proofs.Ytihbgigledmliaa
open Go.RowKit
set_option linter.unusedVariables false
theorem rd_bytesIn {w : World} {a : Option Addr} {n : Nat} {xs : List Nat} (h : Rd w a n xs) : Lib.BytesIn w a n (xs.map fun z : Nat => (z : Int)) := by
  intro h0
  obtain ⟨b, off, rfl, _, hc⟩ := h.2.2.resolve_left (by omega)
  refine ⟨b, off, rfl, fun i hi => ?_⟩
  rw [hc i hi]
  have hl := h.1
  rw [List.getD_eq_getElem?_getD, List.getD_eq_getElem?_getD, List.getElem?_map, List.getElem?_eq_getElem (by omega)]
  rfl
theorem bytesOf_inj : ∀ (xs ys : List Nat), (∀ z ∈ xs, z < 256) → (∀ z ∈ ys, z < 256) → Lib.bytesOf (xs.map fun z : Nat => (z : Int)) = Lib.bytesOf (ys.map fun z : Nat => (z : Int)) → xs = ys
  | [], [], _, _, _ => rfl
  | [], y :: ys, _, _, h => by simp [Lib.bytesOf] at h
  | x :: xs, [], _, _, h => by simp [Lib.bytesOf] at h
  | x :: xs, y :: ys, h1, h2, h => by
    simp only [Lib.bytesOf, List.map_cons, List.cons.injEq] at h
    obtain ⟨h3, h4⟩ := h
    have hx := h1 x (by simp)
    have hy := h2 y (by simp)
    have e : x = y := by
      have := congrArg UInt8.toNat h3
      simp only [Int.toNat_natCast, UInt8.toNat_ofNat'] at this
      omega
    rw [e, bytesOf_inj xs ys (fun z hz => h1 z (by simp [hz])) (fun z hz => h2 z (by simp [hz])) h4]
theorem equal_c (p1 p2 : Option Addr) (n c m d : Nat) (xs ys : List Nat) (w : World) (h1 : Rd w p1 n xs) (h2 : Rd w p2 m ys) :
    Calls Try.prog 92 #[.slice p1 n c, .slice p2 m d] w fun e w' => e = .returned (.bool (decide (xs = ys))) ∧ w' = w := by
  refine (bytes_Equal_all p1 p2 n c m d (xs.map fun z : Nat => (z : Int)) (ys.map fun z : Nat => (z : Int)) w (by rw [List.length_map]; exact h1.1) (by rw [List.length_map]; exact h2.1) (rd_bytesIn h1) (rd_bytesIn h2)).mono ?_
  rintro e w' ⟨rfl, rfl⟩
  refine ⟨?_, rfl⟩
  congr 2
  by_cases hxy : xs = ys
  · subst hxy; simp
  · rw [decide_eq_false hxy, beq_eq_false_iff_ne]
    exact fun h => hxy (bytesOf_inj xs ys h1.2.1 h2.2.1 h)
def FirstR (B : Nat) (w : World) (b : List Nat) (e : Ending) (w' : World) : Prop :=
  match Frm.firstL b with
  | none => e = .returned (.tuple #[.slice none 0 0, .bool false]) ∧ Below B w w'
  | some p => ∃ g c, e = .returned (.tuple #[.slice (some ⟨g, 0, none⟩) (8 + p.length) c, .bool true]) ∧ 8 + p.length ≤ c ∧ c ≤ 9223372036854775807 ∧ Own w' B (.slice (some ⟨g, 0, none⟩) (8 + p.length) c) (Frm.frameL p) ∧ Below B w w'
theorem firstR_none {B : Nat} {w w' : World} {b : List Nat} (h : Frm.firstL b = none) (hb : Below B w w') : FirstR B w b (.returned (.tuple #[.slice none 0 0, .bool false])) w' := by
  unfold FirstR
  rw [h]
  exact ⟨rfl, hb⟩
set_option maxRecDepth 100000 in
set_option maxHeartbeats 4000000 in
theorem first_c (a : Option Addr) (len cap : Nat) (b : List Nat) (w : World) (h : Rd w a len b) (hlc : len ≤ cap) (hm : len ≤ 140737488355328) :
    Calls Try.prog 73 #[.slice a len cap] w (FirstR w.heap.size w b) := by
  have hl := h.1
  by_cases h4 : len < 4
  · have HN := Lib.hid (show Frm.firstL b = none from Frm.first_short (by omega))
    have HW := Lib.hid (word_out a len cap 0 w (by omega) (by omega))
    clear h
    go_enter Try.func73, Try.ntmps73
    go_wp2_with fail
    refine HW.out.mono ?_
    rintro e w1 ⟨rfl, q, rfl⟩
    go_wp2_with fail
    go_ret2
    exact firstR_none HN.out (below_drewN' _ _ _)
  · obtain ⟨n, hn⟩ : ∃ n, n = Frm.wordL b := ⟨_, rfl⟩
    have HW0 : Calls Try.prog 91 #[.slice a len cap, .int .i64 0] w (RetD (.tuple #[.int .u32 (n : Int), .bool true]) w) := by
      have := word_c a len cap 0 b w h (by omega) (by omega)
      rw [hn]
      exact this
    have HW := Lib.hid HW0
    have HN32 := Lib.hid (show n < 4294967296 from by
      rw [hn]
      unfold Frm.wordL
      have hb := h.2.1
      have g : ∀ i, b.getD i 0 < 256 := fun i => by
        rw [List.getD_eq_getElem?_getD]
        by_cases hi : i < b.length
        · rw [List.getElem?_eq_getElem hi]; exact hb _ (List.getElem_mem hi)
        · rw [List.getElem?_eq_none (by omega)]; simp
      have g0 := g 0
      have g1 := g 1
      have g2 := g 2
      have g3 := g 3
      simp only [Numm.num, List.foldl_cons, List.foldl_nil]
      omega)
    clear HW0
    by_cases hbig : 1048576 < n
    · have HN := Lib.hid (show Frm.firstL b = none from Frm.first_none fun hk => by have := hk.2.1; omega)
      clear h hn
      have i1 : (n : Int) > 1048576 := by omega
      go_enter Try.func73, Try.ntmps73
      go_wp2_with fail
      refine HW.out.mono ?_
      rintro e w1 ⟨rfl, q, rfl⟩
      go_wp2_with fail
      go_ret2
      exact firstR_none HN.out (below_drewN' _ _ _)
    · have i1 : ¬ (n : Int) > 1048576 := by omega
      have i2 : wrap64 ((len : Int) - 8) = (len : Int) - 8 := by unfold wrap64; omega
      by_cases hsh : len < n + 8
      · have HN := Lib.hid (show Frm.firstL b = none from Frm.first_none fun hk => by have := hk.2.2.1; omega)
        clear h hn
        have i3 : (len : Int) - 8 < (n : Int) := by omega
        go_enter Try.func73, Try.ntmps73
        go_wp2_with fail
        refine HW.out.mono ?_
        rintro e w1 ⟨rfl, q, rfl⟩
        go_wp2_with fail
        go_ret2
        exact firstR_none HN.out (below_drewN' _ _ _)
      · have i3 : ¬ (len : Int) - 8 < (n : Int) := by omega
        have hsome : ∃ g o, a = some ⟨g, o, none⟩ := by
          obtain ⟨g, o, e, _⟩ := h.2.2.resolve_left (by omega)
          exact ⟨g, o, e⟩
        obtain ⟨g, o, rfl⟩ := hsome
        obtain ⟨p, hp⟩ : ∃ p, p = (b.drop 8).take n := ⟨_, rfl⟩
        have HRP := Lib.hid (show Rd w (sla (some ⟨g, o, none⟩) cap 8) n p from by
          have := (h.cut cap 8 (by omega) hlc).take n (by omega)
          rw [hp]; exact this)
        have HRB := Lib.hid (show Rd w (some ⟨g, o, none⟩) (8 + n) (b.take (8 + n)) from h.take (8 + n) (by omega))
        have hpl : p.length = n := HRP.out.1
        have HFL := Lib.hid (show Frm.firstL b = if Frm.frameL p = b.take (8 + n) then some p else none from by
          unfold Frm.firstL
          by_cases hf : Frm.frameL p = b.take (8 + n)
          · rw [if_pos hf, if_pos ⟨by omega, by omega, by omega, by rw [← hn, ← hp]; exact hf⟩, ← hn, ← hp]
          · rw [if_neg hf, if_neg fun hk => hf (by have := hk.2.2.2; rw [← hn, ← hp] at this; exact this)])
        have HFB := Lib.hid (Frm.frame_byte p HRP.out.2.1)
        have HFN := Lib.hid (show (Frm.frameL p).length = 8 + n from by rw [Frm.frame_len, hpl])
        have HPL := Lib.hid hpl
        have hwn : wrap64 (8 + (n : Int)) = ((8 + n : Nat) : Int) := by unfold wrap64; omega
        have kH := fun W => run_headAt W (some ⟨g, o, none⟩) len cap (8 + n) (by omega)
        by_cases hc8 : cap = 8
        · subst hc8
          have HFR : Hid (∀ q, Calls Try.prog 56 #[.slice (some ⟨g, o, none⟩) n 0] (w.drewN q) (RetB (w.drewN q).heap.size (w.drewN q) (Frm.frameL p))) := Lib.hid fun q => frame_c _ n 0 p _ (show Rd (w.drewN q) (some ⟨g, o, none⟩) n p from by have h := (HRP.out.drewN (n := q)); rw [show sla (some ⟨g, o, none⟩) 8 8 = some ⟨g, o, none⟩ from if_pos rfl] at h; exact h) (by simp) (by omega)
          clear h hn hp hpl hl
          go_enter Try.func73, Try.ntmps73
          go_wp2_with fail
          refine HW.out.mono ?_
          rintro e w1 ⟨rfl, q, rfl⟩
          go_wp2_with fail
          refine ((HFR.out q).mono (RetB.form HFB.out)).mono ?_
          rintro e w2 ⟨a2, L2, c2, rfl, hl2, hlc2, hcm2, hn2, hr2, ho2, hb2⟩
          have hL2 : L2 = 8 + n := by rw [← hl2, HFN.out]
          subst hL2
          have hsome2 : ∃ g2, a2 = some ⟨g2, 0, none⟩ := by
            rcases ho2.2 with ⟨h0, _⟩ | ⟨g', cp, cur, hv, _⟩
            · have := (Value.slice.inj h0).2.1; omega
            · exact ⟨g', (Value.slice.inj hv).1⟩
          obtain ⟨g2, rfl⟩ := hsome2
          have HO2 := Lib.hid ho2
          have HB2 := Lib.hid ((below_drewN' w.heap.size w q).trans hb2)
          have HEQ := Lib.hid (equal_c (some ⟨g2, 0, none⟩) (some ⟨g, o, none⟩) (8 + n) c2 (8 + n) 8 _ _ w2 hr2 (HRB.out.drewN.below hb2))
          clear hl2 hn2 hr2 ho2 hb2 HRP HRB HFR HW HFB HFN
          by_cases hf : Frm.frameL p = b.take (8 + n)
          · have HFS := Lib.hid (show Frm.firstL b = some p from by rw [HFL.out, if_pos hf])
            rw [decide_eq_true hf] at HEQ
            clear hf HFL
            go_wp2_with fail
            refine HEQ.out.mono ?_
            rintro e w3 ⟨rfl, rfl⟩
            go_wp2_with fail
            go_ret2
            unfold FirstR
            rw [HFS.out]
            simp only
            rw [HPL.out]
            exact ⟨g2, c2, rfl, hlc2, hcm2, HO2.out, HB2.out⟩
          · have HFS := Lib.hid (show Frm.firstL b = none from by rw [HFL.out, if_neg hf])
            rw [decide_eq_false hf] at HEQ
            clear hf HFL
            go_wp2_with fail
            refine HEQ.out.mono ?_
            rintro e w3 ⟨rfl, rfl⟩
            go_wp2_with fail
            go_ret2
            exact firstR_none HFS.out HB2.out
        · have hc9 : 8 < cap := by omega
          have HFR : Hid (∀ q, Calls Try.prog 56 #[.slice (some ⟨g, o + 8, none⟩) n (cap - 8)] (w.drewN q) (RetB (w.drewN q).heap.size (w.drewN q) (Frm.frameL p))) := Lib.hid fun q => frame_c _ n (cap - 8) p _ (show Rd (w.drewN q) (some ⟨g, o + 8, none⟩) n p from by have h := (HRP.out.drewN (n := q)); rw [show sla (some ⟨g, o, none⟩) cap 8 = some ⟨g, o + 8, none⟩ from by unfold sla; rw [if_neg hc8]; rfl] at h; exact h) (by simp) (by omega)
          clear h hn hp hpl hl
          go_enter Try.func73, Try.ntmps73
          go_wp2_with fail
          refine HW.out.mono ?_
          rintro e w1 ⟨rfl, q, rfl⟩
          go_wp2_with fail
          refine ((HFR.out q).mono (RetB.form HFB.out)).mono ?_
          rintro e w2 ⟨a2, L2, c2, rfl, hl2, hlc2, hcm2, hn2, hr2, ho2, hb2⟩
          have hL2 : L2 = 8 + n := by rw [← hl2, HFN.out]
          subst hL2
          have hsome2 : ∃ g2, a2 = some ⟨g2, 0, none⟩ := by
            rcases ho2.2 with ⟨h0, _⟩ | ⟨g', cp, cur, hv, _⟩
            · have := (Value.slice.inj h0).2.1; omega
            · exact ⟨g', (Value.slice.inj hv).1⟩
          obtain ⟨g2, rfl⟩ := hsome2
          have HO2 := Lib.hid ho2
          have HB2 := Lib.hid ((below_drewN' w.heap.size w q).trans hb2)
          have HEQ := Lib.hid (equal_c (some ⟨g2, 0, none⟩) (some ⟨g, o, none⟩) (8 + n) c2 (8 + n) cap _ _ w2 hr2 (HRB.out.drewN.below hb2))
          clear hl2 hn2 hr2 ho2 hb2 HRP HRB HFR HW HFB HFN
          by_cases hf : Frm.frameL p = b.take (8 + n)
          · have HFS := Lib.hid (show Frm.firstL b = some p from by rw [HFL.out, if_pos hf])
            rw [decide_eq_true hf] at HEQ
            clear hf HFL
            go_wp2_with fail
            refine HEQ.out.mono ?_
            rintro e w3 ⟨rfl, rfl⟩
            go_wp2_with fail
            go_ret2
            unfold FirstR
            rw [HFS.out]
            simp only
            rw [HPL.out]
            exact ⟨g2, c2, rfl, hlc2, hcm2, HO2.out, HB2.out⟩
          · have HFS := Lib.hid (show Frm.firstL b = none from by rw [HFL.out, if_neg hf])
            rw [decide_eq_false hf] at HEQ
            clear hf HFL
            go_wp2_with fail
            refine HEQ.out.mono ?_
            rintro e w3 ⟨rfl, rfl⟩
            go_wp2_with fail
            go_ret2
            exact firstR_none HFS.out HB2.out
end Go.Proofs.Ytihbgigledmliaa
namespace Go.Proofs.Ytihbgigledmliaa
open Go.RowKit
set_option linter.unusedVariables false
theorem info_slv : (Try.prog.info? 41).map (fun i => (i.zero, i.size, i.bytes)) = some (some (.slice none 0 0), 1, 24) := by kernel_rfl
/-- a row of values that the call owns -/
abbrev OwnV (w : World) (B : Nat) (v : Value) (vs : List Value) : Prop := w.ownsRow B 41 1 v vs.length vs
theorem OwnV.nil (w : World) (B : Nat) : OwnV w B (.slice none 0 0) [] := World.ownsRow_nil _ _ _ _
theorem OwnV.keep {w w' : World} {B : Nat} {v : Value} {vs : List Value} (h : OwnV w B v vs) (hb : Below w.heap.size w w') : OwnV w' B v vs := by
  refine ⟨h.1, ?_⟩
  rcases h.2 with h0 | ⟨g, cap, cur, h1, h2, h3, h4⟩
  · exact .inl h0
  · exact .inr ⟨g, cap, cur, h1, h2, (hb.block g (Array.getElem?_eq_some_iff.1 h3).1).trans h3, h4⟩
theorem OwnV.form {w : World} {B : Nat} {v : Value} {vs : List Value} (h : OwnV w B v vs) : ∃ a n c, v = .slice a n c ∧ vs.length = n ∧ n ≤ c ∧ c ≤ 9223372036854775807 ∧ (n = 0 ∨ ∃ g, a = some ⟨g, 0, none⟩ ∧ B ≤ g ∧ g < w.heap.size ∧ ∀ i u, vs[i]? = some u → w.cell? ⟨g, i, none⟩ = some u) := by
  have h' := h
  rcases h.2 with ⟨rfl, h0⟩ | ⟨g, c, cur, rfl, hb, hh, hn, hm, hs, ht⟩
  · exact ⟨none, 0, 0, rfl, h0, Nat.le_refl _, by omega, .inl rfl⟩
  · refine ⟨_, _, c, rfl, rfl, hn, hm, .inr ⟨g, rfl, hb, (Array.getElem?_eq_some_iff.1 hh).1, fun i u hu => ?_⟩⟩
    have hi := (List.getElem?_eq_some_iff.1 hu).1
    rw [cell_of_row w g i cur _ _ hh, ← Array.getElem?_toList]
    rw [← ht, List.getElem?_take, if_pos (by omega)] at hu
    exact hu
/-- the block of a row of slices holds no bytes -/
theorem OwnV.other {w : World} {B : Nat} {v : Value} {vs : List Value} (h : OwnV w B v vs) {g : Nat} {cur : Array Value} {fr : Nat × Nat} (hg : w.heap[g]? = some (.cells cur 5 fr)) : some g ≠ v.ownBlock := by
  intro he
  rcases h.2 with ⟨rfl, _⟩ | ⟨g', cap, cur', rfl, _, hh, _⟩
  · cases he
  · have e : g = g' := by simpa [Value.ownBlock] using he
    subst e
    rw [hh] at hg
    simp only [Option.some.injEq, Obj.cells.injEq] at hg
    exact absurd hg.2.1 (by decide)
theorem wpList_pushV {w : World} {ops : Array Oper} {rest : List Oper} {o : Oper} {a : Act} {Q : Exit → Act → World → Prop} (hgd : o.guard = none) (s x : Operand)
    (ho : o.op = .call { callee := .builtin .append, args := #[s, x], argTypes := #[55, 55] })
    (B : Nat) (v : Value) (vs : List Value) (y : Value) (hy : y.oneCell' = true) (hs : a.eval s = v) (hown : OwnV w B v vs) (hB : B ≤ w.heap.size) (hx : a.eval x = .slice (some ⟨w.heap.size, 0, none⟩) 1 1)
    (hlen : vs.length + 1 ≤ 1000000000)
    (h : ∀ v' w', OwnV w' B v' (vs ++ [y]) → (∀ (g : Nat) (cur : Array Value) (fr : Nat × Nat), w.heap[g]? = some (.cells cur 5 fr) → w'.heap[g]? = some (.cells cur 5 fr)) → Below B w w' → wpList Try.prog ops Q rest (a.put o.dst v') w') :
    wpList Try.prog ops Q (o :: rest) a (w.alloc (.cells #[y] 41)) := by
  obtain ⟨i0, hi, hz0, hz1, hz2⟩ := info_parts info_slv
  have hal : OwnV (w.alloc (.cells #[y] 41)) B v vs := World.ownsRow.alloc hown _
  refine wpList_append_own _ hgd s x 55 ho B 41 i0 (.slice none 0 0) 1 24 Try.underlying55 hi hz0 hz1 hz2 rfl (by decide) v vs.length vs hs hal ⟨w.heap.size, 0, none⟩ 1 1 [y] hx rfl ?_ ?_ (by unfold maxLen; omega) (by omega) (by simp; omega) ?_
  · intro j u hj
    rw [Addr.add_mid, Nat.zero_add, cell_of_row _ _ _ _ _ _ (heap_new _ _)]
    simpa using hj
  · intro u hu
    simp only [List.mem_singleton] at hu
    subst hu; exact hy
  · intro v' w' h1 h2 _
    refine h v' w' ?_ ?_ ?_
    · have e : (vs ++ [y]).length = vs.length + 1 := by simp
      unfold OwnV
      rw [e]
      exact h1
    · intro g cur fr hg
      have hg2 : (w.alloc (.cells #[y] 41)).heap[g]? = some (.cells cur 5 fr) := by
        rw [← hg]
        exact ((Below.refl w.heap.size w).alloc (Nat.le_refl _) _).block g (Array.getElem?_eq_some_iff.1 hg).1
      rw [h2.block g (Array.getElem?_eq_some_iff.1 hg2).1 (hal.other hg2)]
      exact hg2
    · exact ((Below.refl B w).alloc hB _).grown h2 (by simp only [World.alloc, Array.size_push]; omega) fun k hk => (World.ownsRow.lt hown k hk).1
/-- a record in block g, eight bytes behind its beginning -/
def Rc (W : World) (g : Nat) (v : Value) (p : List Nat) : Prop :=
  ∃ c cur, v = .slice (sla (some ⟨g, 0, none⟩) c 8) p.length (c - 8) ∧ W.heap[g]? = some (.cells cur 5 (0, 0)) ∧ 8 + p.length ≤ c ∧ c ≤ 9223372036854775807 ∧ cur.size = c ∧ (cur.toList.drop 8).take p.length = cellsOf p ∧ ∀ z ∈ p, z < 256
structure Rcs (B : Nat) (W : World) (vs : List Value) (gs : List Nat) (ps : List (List Nat)) : Prop where
  lv : vs.length = ps.length
  lg : gs.length = ps.length
  nodup : gs.Nodup
  rc : ∀ (i : Nat) (v : Value) (g : Nat) (p : List Nat), vs[i]? = some v → gs[i]? = some g → ps[i]? = some p → B ≤ g ∧ Rc W g v p
theorem Rc.lt {W : World} {g : Nat} {v : Value} {p : List Nat} (h : Rc W g v p) : g < W.heap.size := by
  obtain ⟨c, cur, _, hh, _⟩ := h
  exact (Array.getElem?_eq_some_iff.1 hh).1
theorem Rcs.lt {B : Nat} {W : World} {vs : List Value} {gs : List Nat} {ps : List (List Nat)} (h : Rcs B W vs gs ps) : ∀ g ∈ gs, B ≤ g ∧ g < W.heap.size := by
  intro g hg
  obtain ⟨i, hi⟩ := List.mem_iff_getElem?.1 hg
  have hl := (List.getElem?_eq_some_iff.1 hi).1
  have h1 := h.lv
  have h2 := h.lg
  obtain ⟨h3, h4⟩ := h.rc i vs[i] g ps[i] (List.getElem?_eq_getElem (by omega)) hi (List.getElem?_eq_getElem (by omega))
  exact ⟨h3, h4.lt⟩
theorem Rcs.nil (B : Nat) (W : World) : Rcs B W [] [] [] := ⟨rfl, rfl, List.nodup_nil, fun i v g p h => by simp at h⟩
/-- blocks of bytes that stand -/
def KeepsB (W W' : World) : Prop := ∀ (g : Nat) (cur : Array Value) (fr : Nat × Nat), W.heap[g]? = some (.cells cur 5 fr) → W'.heap[g]? = some (.cells cur 5 fr)
theorem KeepsB.of {W W' : World} (hb : Below W.heap.size W W') : KeepsB W W' := fun g cur fr h => (hb.block g (Array.getElem?_eq_some_iff.1 h).1).trans h
theorem Rc.keep {W W' : World} {g : Nat} {v : Value} {p : List Nat} (h : Rc W g v p) (hk : KeepsB W W') : Rc W' g v p := by
  obtain ⟨c, cur, h1, h2, h3⟩ := h
  exact ⟨c, cur, h1, hk g cur _ h2, h3⟩
theorem Rcs.keep {B : Nat} {W W' : World} {vs : List Value} {gs : List Nat} {ps : List (List Nat)} (h : Rcs B W vs gs ps) (hk : KeepsB W W') : Rcs B W' vs gs ps :=
  ⟨h.lv, h.lg, h.nodup, fun i v g p a b c => ⟨(h.rc i v g p a b c).1, (h.rc i v g p a b c).2.keep hk⟩⟩
theorem Rcs.push {B : Nat} {W : World} {vs : List Value} {gs : List Nat} {ps : List (List Nat)} (h : Rcs B W vs gs ps) {g : Nat} {v : Value} {p : List Nat} (hg : g ∉ gs) (hB : B ≤ g) (hr : Rc W g v p) : Rcs B W (vs ++ [v]) (gs ++ [g]) (ps ++ [p]) where
  lv := by simp [h.lv]
  lg := by simp [h.lg]
  nodup := by
    rw [List.nodup_append]
    refine ⟨h.nodup, by simp, ?_⟩
    intro x hx y hy e
    simp only [List.mem_singleton] at hy
    rw [e, hy] at hx
    exact hg hx
  rc := fun i u k q hu hk hq => by
    have h1 := h.lv
    have h2 := h.lg
    by_cases hi : i < ps.length
    · rw [List.getElem?_append_left (by omega)] at hu hk hq
      exact h.rc i u k q hu hk hq
    · rw [List.getElem?_append_right (by omega)] at hu hk hq
      have hz : i - ps.length = 0 := by
        have := (List.getElem?_eq_some_iff.1 hq).1
        simp at this
        omega
      rw [h1, hz] at hu
      rw [h2, hz] at hk
      rw [hz] at hq
      simp at hu hk hq
      subst hu hk hq
      exact ⟨hB, hr⟩
theorem rc_of {W : World} {B g c : Nat} {p : List Nat} (h : Own W B (.slice (some ⟨g, 0, none⟩) (8 + p.length) c) (Frm.frameL p)) (hp : ∀ z ∈ p, z < 256) : B ≤ g ∧ Rc W g (.slice (sla (some ⟨g, 0, none⟩) c 8) p.length (c - 8)) p := by
  obtain ⟨cur, hb, hh, hn, hm, hs, ht⟩ := own_open h (Frm.frame_len p)
  refine ⟨hb, c, cur, rfl, hh, hn, hm, hs, ?_, hp⟩
  have := congrArg (List.drop 8) ht
  rw [List.drop_take, show 8 + p.length - 8 = p.length by omega] at this
  rw [this]
  have hd := Frm.frame_drop p
  unfold cellsOf
  rw [← List.map_drop, hd]
/-- a record's bytes can be read -/
theorem Rc.rd {W : World} {g : Nat} {v : Value} {p : List Nat} (h : Rc W g v p) : ∃ a c, v = .slice a p.length c ∧ p.length ≤ c ∧ c ≤ 9223372036854775807 ∧ (a = none → c = 0) ∧ Rd W a p.length p ∧ (0 < p.length → a = some ⟨g, 8, none⟩) := by
  obtain ⟨c, cur, rfl, hh, hn, hm, hs, ht, hb⟩ := h
  have ha : 0 < p.length → sla (some ⟨g, 0, none⟩) c 8 = some ⟨g, 8, none⟩ := fun h0 => by unfold sla; rw [if_neg (by omega)]; rfl
  refine ⟨_, _, rfl, by omega, by omega, fun e => ?_, ⟨rfl, hb, ?_⟩, ha⟩
  · unfold sla at e
    split at e <;> simp at e
  · by_cases h0 : p.length = 0
    · exact .inl h0
    · refine .inr ⟨g, 8, ha (by omega), (Array.getElem?_eq_some_iff.1 hh).1, fun i hi => ?_⟩
      rw [cell_of_row W g (8 + i) cur _ _ hh, ← Array.getElem?_toList]
      have e := congrArg (fun l => l[i]?) ht
      simp only [List.getElem?_take, if_pos hi, List.getElem?_drop] at e
      rw [e]
      exact cellsOf_get p i hi
end Go.Proofs.Ytihbgigledmliaa
namespace Go.Proofs.Ytihbgigledmliaa
open Go.ChangeShapes Go.WideShapes Go.ChangeAt Go.RowKit Go.Deep
set_option linter.unusedVariables false
def SlB (W : World) (s : Sl) : Prop := Rd W s.1 s.2.1 s.2.2.2 ∧ (s.1 = none → s.2.2.1 = 0) ∧ s.2.1 ≤ s.2.2.1 ∧ s.2.2.1 ≤ 140737488351232
def BssIn (W : World) (a : Option Addr) (len cap : Nat) (L : List Sl) : Prop :=
  L.length = len ∧ (a = none → cap = 0) ∧ len ≤ cap ∧ cap ≤ 9223372036854775807 ∧ (len = 0 ∨ ∃ b off, a = some ⟨b, off, none⟩ ∧ b < W.heap.size ∧ ∀ i s, L[i]? = some s → W.cell? ⟨b, off + i, none⟩ = some (slv s)) ∧ ∀ s ∈ L, SlB W s
theorem SlB.below {W W' : World} {s : Sl} (h : SlB W s) (hb : Below W.heap.size W W') : SlB W' s := ⟨h.1.below hb, h.2⟩
theorem BssIn.below {W W' : World} {a : Option Addr} {len cap : Nat} {L : List Sl} (h : BssIn W a len cap L) (hb : Below W.heap.size W W') : BssIn W' a len cap L := by
  obtain ⟨h1, h2, h3, h4, h5, h6⟩ := h
  refine ⟨h1, h2, h3, h4, h5.imp id ?_, fun s hs => (h6 s hs).below hb⟩
  rintro ⟨b, off, ha, hlt, hc⟩
  exact ⟨b, off, ha, Nat.lt_of_lt_of_le hlt hb.size, fun i s hs => (hb.cell (p := ⟨b, off + i, none⟩) hlt).trans (hc i s hs)⟩
theorem weightsAll_mem {H : Type} {P : Program} {e : TypeId} : ∀ {l : List (DataW H)} {d : DataW H} {n : Nat}, d ∈ l → n ∈ d.weights P e → n ∈ DataW.weightsAll P e l
  | x :: l, d, n, hd, hn => by
    simp only [DataW.weightsAll, List.mem_append]
    rcases List.mem_cons.1 hd with rfl | hd
    · exact .inl hn
    · exact .inr (weightsAll_mem hd hn)
theorem cells_sl : Try.prog.cellsOf 41 = 1 := by kernel_rfl
theorem bytes_u8 : Try.prog.bytesOf 5 = 1 := by kernel_rfl
set_option maxRecDepth 100000 in
theorem open_bytess {H : Type} {enc : TypeId × Value → H} {W : World} {base : Nat} {held : Bool} {d : DataW H} {p : List MemPlace} {a : Option Addr} {len cap : Nat}
    (h : DataW.Trod enc Try.prog W base (fun _ => true) held 55 (.slice a len cap) d p) (hsz : ∀ n ∈ DataW.weights Try.prog 55 d, n ≤ reachBytes) : ∃ L, BssIn W a len cap L := by
  obtain ⟨fuel, hf⟩ := h
  rcases open_slice Try.underlying55 hf with ⟨hcs, _⟩ | ⟨x, l, c, m, n, D, Pl, hcs, _, hl, hcm, hm, hx, hi⟩
  · simp [Value.cells] at hcs
    obtain ⟨rfl, rfl, rfl⟩ := hcs
    exact ⟨[], rfl, fun _ => rfl, Nat.le_refl _, by omega, .inl rfl, by simp⟩
  · simp [Value.cells] at hcs
    obtain ⟨rfl, rfl, rfl⟩ := hcs
    simp only [if_true] at hm
    subst hm
    have hd := (Prod.mk.inj hx).1
    rw [cells_sl] at hi
    unfold maxLen at hcm
    obtain ⟨Z, hZ⟩ := choose_lt (α := Sl) (n := len) (p := fun i s => SlB W s ∧ W.cells? base (x.add (i * 1)) 1 = some [slv s]) (fun i him => by
      obtain ⟨cs', h1, h2⟩ := hi i (by omega)
      rcases open_ints Try.underlying41 Try.underlying5 (by kernel_rfl) h2 with ⟨e, _⟩ | ⟨x', l', c', zs, e, _, hl', hm', hz, hx', hcell, hwz⟩
      · exact ⟨(none, 0, 0, []), ⟨⟨rfl, by simp, .inl rfl⟩, fun _ => rfl, Nat.le_refl _, Nat.zero_le _⟩, by rw [h1, e]; rfl⟩
      · simp only [if_true] at hz
        have hdi := (Prod.mk.inj hx').1
        have hw : (lits .u8 (zs.take l') : List (DataW H)).length + (lits .u8 (zs.drop l') : List (DataW H)).length ≤ reachBytes := by
          refine hsz _ ?_
          rw [hd]
          simp only [DataW.weights, Try.underlying55]
          refine List.mem_cons_of_mem _ (List.mem_append_left _ (weightsAll_mem (d := D i) (List.mem_map.2 ⟨i, by simpa using him, rfl⟩) ?_))
          rw [hdi]
          simp only [DataW.weights, Try.underlying41, bytes_u8, Nat.mul_one]
          exact List.mem_cons_self
        simp only [lits, List.length_map, List.length_take, List.length_drop, reachBytes] at hw
        obtain ⟨b1, b2, b3, b4⟩ := bytesIn_some hl' hz (by omega) hcell hwz
        exact ⟨(some x', l', c', _), ⟨b1, b2, b3, b4⟩, by rw [h1, e]; rfl⟩)
    refine ⟨(List.range len).map Z, by simp, by simp, hl, by omega, ?_, fun s hs => ?_⟩
    · by_cases h0 : len = 0
      · exact .inl h0
      · have hat : ∀ i, i < len → W.cell? ((x.add (i * 1)).add 0) = some (slv (Z i)) := fun i him => by
          obtain ⟨_, _, hat⟩ := World.cells?_some (hZ i him).2
          exact hat 0 (by omega)
        have hz := hat 0 (by omega)
        obtain ⟨b, off, spot⟩ := x
        have hspot : spot = none := by simpa [Addr.add] using World.cell?_spot hz
        subst hspot
        rw [show ((⟨b, off, none⟩ : Addr).add (0 * 1)).add 0 = ⟨b, off, none⟩ by simp [Addr.add]] at hz
        refine .inr ⟨b, off, rfl, World.block_lt_of_cell? W ⟨b, off, none⟩ hz, fun i s hs => ?_⟩
        have hil : i < len := by
          have := (List.getElem?_eq_some_iff.1 hs).1
          simpa using this
        rw [List.getElem?_map, List.getElem?_range hil] at hs
        simp only [Option.map_some, Option.some.injEq] at hs
        have h1 := hat i hil
        rw [Addr.add_mid, Addr.add_mid, Nat.mul_one, Nat.add_zero] at h1
        rw [h1, hs]
    · obtain ⟨i, hi, rfl⟩ := List.mem_map.1 hs
      exact (hZ i (by simpa using hi)).1
/-- numbers in a row that the call owns -/
def cellsI (ns : List Nat) : List Value := ns.map fun n : Nat => Value.int .i64 (n : Int)
theorem cellsI_len (ns : List Nat) : (cellsI ns).length = ns.length := by simp [cellsI]
abbrev OwnI (w : World) (B : Nat) (v : Value) (ns : List Nat) : Prop := w.ownsRow B 3 1 v ns.length (cellsI ns)
theorem OwnI.nil (w : World) (B : Nat) : OwnI w B (.slice none 0 0) [] := World.ownsRow_nil _ _ _ _
theorem info_int : (Try.prog.info? 3).map (fun i => (i.zero, i.size, i.bytes)) = some (some (.int .i64 0), 1, 8) := by kernel_rfl
theorem OwnI.form {w : World} {B : Nat} {v : Value} {ns : List Nat} (h : OwnI w B v ns) : ∃ a n c, v = .slice a n c ∧ ns.length = n ∧ n ≤ c ∧ c ≤ 9223372036854775807 ∧ (n = 0 ∨ ∃ g, a = some ⟨g, 0, none⟩ ∧ B ≤ g ∧ g < w.heap.size ∧ ∀ i, i < n → w.cell? ⟨g, i, none⟩ = some (.int .i64 ((ns.getD i 0 : Nat) : Int))) := by
  rcases h.2 with ⟨rfl, h0⟩ | ⟨g, c, cur, rfl, hb, hh, hn, hm, hs, ht⟩
  · exact ⟨none, 0, 0, rfl, h0, Nat.le_refl _, by omega, .inl rfl⟩
  · refine ⟨_, _, c, rfl, rfl, hn, hm, .inr ⟨g, rfl, hb, (Array.getElem?_eq_some_iff.1 hh).1, fun i hi => ?_⟩⟩
    rw [cell_of_row w g i cur _ _ hh, ← Array.getElem?_toList]
    have e := congrArg (fun l => l[i]?) ht
    simp only [Nat.mul_one, List.getElem?_take, if_pos hi] at e
    rw [e]
    simp [cellsI, hi]
/-- a row of bytes and a row of numbers are two -/
theorem own_two {w : World} {B B' : Nat} {v v' : Value} {zs ns : List Nat} (h : Own w B v zs) (h' : OwnI w B' v' ns) : v'.ownBlock = none ∨ v'.ownBlock ≠ v.ownBlock := by
  rcases h.2 with ⟨rfl, _⟩ | ⟨g, c, cur, rfl, _, hh, _⟩
  · by_cases e : v'.ownBlock = none
    · exact .inl e
    · exact .inr e
  · rcases h'.2 with ⟨rfl, _⟩ | ⟨g', c', cur', rfl, _, hh', _⟩
    · exact .inl rfl
    · right
      intro e
      have e2 : g' = g := by simpa [Value.ownBlock] using e
      subst e2
      rw [hh] at hh'
      simp only [Option.some.injEq, Obj.cells.injEq] at hh'
      exact absurd hh'.2.1 (by decide)
/-- append(s, p...) of bytes, and what it may write -/
theorem wpList_catG {w : World} {ops : Array Oper} {rest : List Oper} {o : Oper} {a : Act} {Q : Exit → Act → World → Prop} (hgd : o.guard = none) (s x : Operand)
    (ho : o.op = .call { callee := .builtin .append, args := #[s, x], argTypes := #[41, 41] })
    (B : Nat) (v : Value) (zs ys : List Nat) (hs : a.eval s = v) (hown : Own w B v zs) (hB : B ≤ w.heap.size) (ad : Option Addr) (len cap : Nat) (hx : a.eval x = .slice ad len cap)
    (hrd : Rd w ad len ys) (h0 : 0 < len) (hlen : zs.length + ys.length ≤ 140737488355328)
    (h : ∀ v' w', Own w' B v' (zs ++ ys) → w.grownBy w' v.ownBlock → wpList Try.prog ops Q rest (a.put o.dst v') w') :
    wpList Try.prog ops Q (o :: rest) a w := by
  obtain ⟨i0, hi, hz0, hz1, hz2⟩ := info_parts byteInfo
  obtain ⟨hl, hz, hc⟩ := hrd
  obtain ⟨b, off, rfl, hb, hcell⟩ := hc.resolve_left (by omega)
  refine wpList_append_own _ hgd s x 41 ho B 5 i0 (.int .u8 0) 1 1 Try.underlying41 hi hz0 hz1 hz2 rfl (by decide) v zs.length (cellsOf zs) hs hown ⟨b, off, none⟩ len cap (cellsOf ys) hx (by rw [cellsOf_length, hl, Nat.mul_one]) ?_ (cellsOf_one _) (by unfold maxLen; omega) (by omega) hB ?_
  · intro j u hj
    have hjl : j < ys.length := by
      have := (List.getElem?_eq_some_iff.1 hj).1
      rwa [cellsOf_length] at this
    rw [cellsOf_get ys j hjl] at hj
    cases hj
    rw [Addr.add_mid]
    exact hcell j (by omega)
  · intro v' w' h1 h2 _
    refine h v' w' ?_ h2
    have e : (zs ++ ys).length = zs.length + len := by rw [List.length_append, hl]
    unfold Own
    rw [e, cellsOf_append]
    exact h1
end Go.Proofs.Ytihbgigledmliaa
namespace Go.Proofs.Ytihbgigledmliaa.Frm
set_option linter.unusedVariables false
def flatF (ps : List (List Nat)) : List Nat := (ps.map frameL).flatten
theorem flat_app (a b : List (List Nat)) : flatF (a ++ b) = flatF a ++ flatF b := by simp [flatF]
theorem flat_one (p : List Nat) : flatF [p] = frameL p := by simp [flatF]
theorem flat_snoc (ps : List (List Nat)) (k : Nat) (p : List Nat) (h : ps[k]? = some p) : flatF (ps.take (k + 1)) = flatF (ps.take k) ++ frameL p := by
  rw [List.take_add_one, h, flat_app]
  simp [flatF]
theorem flat_byte (ps : List (List Nat)) (h : ∀ p ∈ ps, ∀ z ∈ p, z < 256) : ∀ z ∈ flatF ps, z < 256 := by
  intro z hz
  unfold flatF at hz
  obtain ⟨l, hl, hz⟩ := List.mem_flatten.1 hz
  obtain ⟨p, hp, rfl⟩ := List.mem_map.1 hl
  exact frame_byte p (h p hp) z hz
theorem flat_len (ps : List (List Nat)) (h : ∀ p ∈ ps, p.length ≤ 400) : (flatF ps).length ≤ 408 * ps.length := by
  induction ps with
  | nil => simp [flatF]
  | cons p ps ih =>
    have h1 := ih (fun q hq => h q (by simp [hq]))
    have h2 := h p (by simp)
    have h3 := frame_len p
    have e : flatF (p :: ps) = frameL p ++ flatF ps := by simp [flatF]
    rw [e, List.length_append, List.length_cons]
    omega
theorem flat_pos (ps : List (List Nat)) (h : 0 < ps.length) : 0 < (flatF ps).length := by
  match ps, h with
  | p :: ps, _ =>
    have h3 := frame_len p
    have e : flatF (p :: ps) = frameL p ++ flatF ps := by simp [flatF]
    rw [e, List.length_append]
    omega
theorem scan_pre (X : List Nat) : ∀ (qs : List (List Nat)), (∀ p ∈ qs, p.length ≤ 1048576) → (scanL (flatF qs ++ X)).1 = qs ++ (scanL X).1
  | [], _ => by simp [flatF]
  | p :: qs, h => by
    have e : flatF (p :: qs) ++ X = frameL p ++ (flatF qs ++ X) := by simp [flatF]
    rw [e, scan_frame p _ (h p (by simp))]
    show p :: (scanL (flatF qs ++ X)).1 = _
    rw [scan_pre X qs (fun q hq => h q (by simp [hq]))]
    rfl
theorem scan_cnt : ∀ (n : Nat) (b : List Nat), b.length ≤ n → 8 * (scanL b).1.length ≤ b.length
  | 0, b, hn => by rw [scan_none (first_short (by omega))]; exact Nat.zero_le _
  | n + 1, b, hn => by
    cases hf : firstL b with
    | none => rw [scan_none hf]; exact Nat.zero_le _
    | some p =>
      obtain ⟨h1, _⟩ := first_some hf
      rw [scan_some hf]
      have := scan_cnt n (b.drop (8 + p.length)) (by rw [List.length_drop]; omega)
      rw [List.length_drop] at this
      simp only [List.length_cons]
      omega
theorem turned (ps : List (List Nat)) (hb : ∀ p ∈ ps, ∀ z ∈ p, z < 256) (hl : ∀ p ∈ ps, p.length ≤ 1048576) (k t y : Nat) (p : List Nat) (hk : ps[k]? = some p)
    (h1 : (flatF (ps.take k)).length ≤ t) (h2 : t < (flatF (ps.take (k + 1))).length) (hy : y < 256) (hne : (flatF ps).getD t 0 ≠ y) :
    ∃ more, (scanL ((flatF ps).set t y)).1 = ps.take k ++ more ∧ (4 ≤ t - (flatF (ps.take k)).length → more = []) := by
  have hkl := (List.getElem?_eq_some_iff.1 hk).1
  have hpm : p ∈ ps := List.mem_of_getElem? hk
  have e1 : ps = ps.take k ++ (p :: ps.drop (k + 1)) := by
    have h3 : ps[k] = p := (List.getElem?_eq_some_iff.1 hk).2
    conv => lhs; rw [← List.take_append_drop k ps, List.drop_eq_getElem_cons hkl, h3]
  have e2 : flatF ps = flatF (ps.take k) ++ (frameL p ++ flatF (ps.drop (k + 1))) := by
    conv => lhs; rw [e1]
    rw [flat_app]
    simp [flatF]
  rw [flat_snoc ps k p hk, List.length_append] at h2
  obtain ⟨F, hF⟩ : ∃ F, F = flatF (ps.take k) := ⟨_, rfl⟩
  obtain ⟨r, hr⟩ : ∃ r, r = flatF (ps.drop (k + 1)) := ⟨_, rfl⟩
  rw [← hF, ← hr] at e2
  rw [← hF] at h1 h2 ⊢
  have e3 : (flatF ps).set t y = F ++ ((frameL p).set (t - F.length) y ++ r) := by
    rw [e2, List.set_append_right _ _ h1, List.set_append_left _ _ (by omega)]
  have hne2 : (frameL p).getD (t - F.length) 0 ≠ y := by
    intro hc
    apply hne
    rw [e2, List.getD_eq_getElem?_getD, List.getElem?_append_right h1, List.getElem?_append_left (by omega), ← List.getD_eq_getElem?_getD]
    exact hc
  rw [e3, hF, scan_pre _ _ (fun q hq => hl q (List.mem_of_mem_take hq))]
  refine ⟨_, rfl, fun h4 => ?_⟩
  rw [← hF] at h4 ⊢
  rw [scan_none (first_turned p r (hb p hpm) (hl p hpm) (t - F.length) y h4 (by rw [← frame_len p]; omega) hy hne2)]
theorem xor_ne (x t : Nat) (h : t ≠ 0) : x ≠ x ^^^ t := by
  intro e
  apply h
  have := congrArg (x ^^^ ·) e
  simp only [Nat.xor_self, ← Nat.xor_assoc, Nat.zero_xor] at this
  exact this.symm
theorem xor_lt (x t : Nat) (h : x < 256) (h2 : t < 256) : x ^^^ t < 256 := Nat.xor_lt_two_pow (n := 8) h h2
end Go.Proofs.Ytihbgigledmliaa.Frm
namespace Go.Proofs.Ytihbgigledmliaa
open Go.RowKit
set_option linter.unusedVariables false
theorem sizeOf_sl (W : World) : (Go.sizeOf 41).run Try.prog W = .ok 1 W := by kernel_rfl
theorem und_bss : Try.prog.underlying 55 = some (.slice (Try.prog.elem 55)) := by
  rw [show Try.prog.elem 55 = 41 by kernel_rfl]; exact Try.underlying55
theorem run_vheadAt (W : World) (a : Option Addr) (len cap k : Nat) (hk : k ≤ cap) :
    (Instr.sliceAt 55 (.slice a len cap) none (some (.int .i64 (k : Int))) none).run Try.prog W = .ok (.slice a k cap) W := by
  rw [run_sliceAt_slice W _ _ _ _ _ und_bss, run_slice_h W _ a len cap und_bss .i64 (k : Int) (by omega) (by omega), show Try.prog.elem 55 = 41 by kernel_rfl, sizeOf_sl]
  simp [Result.andThen, sliced, add_zero']
def SmallR (len : Nat) (L : List Sl) (w : World) (e : Ending) (w' : World) : Prop := ∃ r : Bool, e = .returned (.bool r) ∧ w' = w ∧ (r = true → len ≤ 12 ∧ ∀ s ∈ L, s.2.1 ≤ 400)
end Go.Proofs.Ytihbgigledmliaa
namespace Go.Proofs.Ytihbgigledmliaa
open Go.RowKit
set_option linter.unusedVariables false
/-- a row of slices that can be read -/
def RowRd (w : World) (a : Option Addr) (n : Nat) (ps : List (List Nat)) : Prop :=
  ps.length = n ∧ (n = 0 ∨ ∃ b off, a = some ⟨b, off, none⟩ ∧ ∀ i p, ps[i]? = some p → ∃ x m c, w.cell? ⟨b, off + i, none⟩ = some (.slice x m c) ∧ Rd w x m p ∧ m ≤ 9223372036854775807)
theorem RowRd.take {w : World} {a : Option Addr} {n : Nat} {ps : List (List Nat)} (h : RowRd w a n ps) (k : Nat) (hk : k ≤ n) : RowRd w a k (ps.take k) := by
  obtain ⟨h1, h2⟩ := h
  refine ⟨by rw [List.length_take]; omega, ?_⟩
  rcases h2 with h2 | ⟨b, off, ha, hc⟩
  · exact .inl (by omega)
  · refine .inr ⟨b, off, ha, fun i p hp => hc i p ?_⟩
    rw [List.getElem?_take] at hp
    split at hp
    · exact hp
    · cases hp
theorem RowRd.drewN {w : World} {a : Option Addr} {n : Nat} {ps : List (List Nat)} (h : RowRd w a n ps) (q : Nat) : RowRd (w.drewN q) a n ps := h
def Drw (w W : World) : Prop := ∃ q, W = w.drewN q
theorem run_cell_sl (W : World) (g j : Nat) (a : Option Addr) (l c : Nat) (hc : W.cell? ⟨g, j, none⟩ = some (.slice a l c)) : (Instr.loadAt 41 (.pointer (some ⟨g, j, none⟩))).run Try.prog W = .ok (.slice a l c) W := by go_simp
end Go.Proofs.Ytihbgigledmliaa
