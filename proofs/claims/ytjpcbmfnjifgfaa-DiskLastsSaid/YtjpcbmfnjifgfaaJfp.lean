/-
  Frames of records, on plain lists: what a record's frame is, which records bytes begin with, and that a frame of which one byte behind its length is another one is none.
-/
import Derived.Test.YtjpcbmfnjifgfaaPka
import Derived.Test.YtjpcbmfnjifgfaaCrcm
namespace Go.Proofs.Ytjpcbmfnjifgfaa.Frm
open Go.Proofs.Ytjpcbmfnjifgfaa.Numm
set_option linter.unusedVariables false
def crcL (l : List Nat) : Nat := 4294967295 - Crcm.reg 4294967295 l
def frameL (p : List Nat) : List Nat := put p.length 4 ++ (put (crcL (put p.length 4 ++ p)) 4 ++ p)
theorem frame_len (p : List Nat) : (frameL p).length = 8 + p.length := by simp [frameL, put_len]; omega
theorem frame_byte (p : List Nat) (h : ∀ z ∈ p, z < 256) : ∀ z ∈ frameL p, z < 256 := by
  intro z hz
  simp only [frameL, List.mem_append] at hz
  rcases hz with hz | hz | hz
  · exact put_byte _ _ z hz
  · exact put_byte _ _ z hz
  · exact h z hz
theorem frame_drop (p : List Nat) : (frameL p).drop 8 = p := by
  unfold frameL
  rw [<- List.append_assoc, List.drop_append, List.drop_eq_nil_of_le (by simp [put_len]), List.nil_append]
  simp [put_len]
def wordL (b : List Nat) : Nat := num 0 [b.getD 0 0, b.getD 1 0, b.getD 2 0, b.getD 3 0]
def FirstOk (b : List Nat) : Prop := 8 ≤ b.length ∧ wordL b ≤ 1048576 ∧ wordL b + 8 ≤ b.length ∧ frameL ((b.drop 8).take (wordL b)) = b.take (8 + wordL b)
instance (b : List Nat) : Decidable (FirstOk b) := by unfold FirstOk; exact inferInstance
def firstL (b : List Nat) : Option (List Nat) := if FirstOk b then some ((b.drop 8).take (wordL b)) else none
theorem first_some {b p : List Nat} (h : firstL b = some p) : 8 + p.length ≤ b.length ∧ p.length = wordL b ∧ p.length ≤ 1048576 ∧ p = (b.drop 8).take (wordL b) ∧ frameL p = b.take (8 + p.length) := by
  unfold firstL at h
  split at h
  · rename_i hk
    obtain ⟨h1, h2, h3, h4⟩ := hk
    cases h
    have e : ((b.drop 8).take (wordL b)).length = wordL b := by simp; omega
    rw [e]
    exact ⟨by omega, rfl, h2, rfl, h4⟩
  · cases h
theorem first_none {b : List Nat} (h : ¬ FirstOk b) : firstL b = none := if_neg h
theorem first_yes {b : List Nat} (h : FirstOk b) : firstL b = some ((b.drop 8).take (wordL b)) := if_pos h
/-- the records that bytes begin with, and how many bytes these take -/
def scanF : Nat → List Nat → List (List Nat) × Nat
  | 0, _ => ([], 0)
  | f + 1, b => match firstL b with
    | none => ([], 0)
    | some p => (p :: (scanF f (b.drop (8 + p.length))).1, 8 + p.length + (scanF f (b.drop (8 + p.length))).2)
theorem first_short {b : List Nat} (h : b.length < 8) : firstL b = none := first_none fun hk => absurd hk.1 (by omega)
theorem scanF_fuel : ∀ (f g : Nat) (b : List Nat), b.length ≤ f → b.length ≤ g → scanF f b = scanF g b
  | 0, 0, _, _, _ => rfl
  | 0, g + 1, b, hf, hg => by rw [scanF, scanF, first_short (by omega)]
  | f + 1, 0, b, hf, hg => by rw [scanF, scanF, first_short (by omega)]
  | f + 1, g + 1, b, hf, hg => by
    rw [scanF, scanF]
    split
    · rfl
    · rename_i p hp
      obtain ⟨h1, _⟩ := first_some hp
      rw [scanF_fuel f g (b.drop (8 + p.length)) (by rw [List.length_drop]; omega) (by rw [List.length_drop]; omega)]
def scanL (b : List Nat) : List (List Nat) × Nat := scanF b.length b
theorem scan_none {b : List Nat} (h : firstL b = none) : scanL b = ([], 0) := by
  unfold scanL
  cases hb : b.length with
  | zero => rfl
  | succ n => rw [scanF, h]
theorem scan_some {b p : List Nat} (h : firstL b = some p) : scanL b = (p :: (scanL (b.drop (8 + p.length))).1, 8 + p.length + (scanL (b.drop (8 + p.length))).2) := by
  obtain ⟨h1, _⟩ := first_some h
  unfold scanL
  rw [scanF_fuel b.length (b.length + 1) b (by omega) (by omega), scanF, h]
  simp only
  rw [scanF_fuel b.length (b.drop (8 + p.length)).length (b.drop (8 + p.length)) (by rw [List.length_drop]; omega) (by omega)]
theorem scan_le : ∀ (n : Nat) (b : List Nat), b.length ≤ n → (scanL b).2 ≤ b.length
  | 0, b, hn => by rw [scan_none (first_short (by omega))]; exact Nat.zero_le _
  | n + 1, b, hn => by
    cases hf : firstL b with
    | none => rw [scan_none hf]; exact Nat.zero_le _
    | some p =>
      obtain ⟨h1, _⟩ := first_some hf
      rw [scan_some hf]
      have := scan_le n (b.drop (8 + p.length)) (by rw [List.length_drop]; omega)
      rw [List.length_drop] at this
      show 8 + p.length + _ ≤ _
      omega
theorem scan_recs_byte {b : List Nat} (hb : ∀ z ∈ b, z < 256) : ∀ (n : Nat) (c : List Nat), c.length ≤ n → (∀ z ∈ c, z < 256) → ∀ p ∈ (scanL c).1, ∀ z ∈ p, z < 256
  | 0, c, hn, _ => by rw [scan_none (first_short (by omega))]; simp
  | n + 1, c, hn, hc => by
    cases hf : firstL c with
    | none => rw [scan_none hf]; simp
    | some p =>
      obtain ⟨h1, h2, h3, h4, h5⟩ := first_some hf
      rw [scan_some hf]
      intro q hq
      rcases List.mem_cons.1 hq with rfl | hq
      · intro z hz
        rw [h4] at hz
        exact hc z (List.mem_of_mem_drop (List.mem_of_mem_take hz))
      · exact scan_recs_byte hb n _ (by rw [List.length_drop]; omega) (fun z hz => hc z (List.mem_of_mem_drop hz)) q hq
theorem four (l : List Nat) (a b c d : Nat) (rest : List Nat) (h : l = a :: b :: c :: d :: rest) : [l.getD 0 0, l.getD 1 0, l.getD 2 0, l.getD 3 0] = [a, b, c, d] := by subst h; rfl
theorem put4 (n : Nat) : ∃ a b c d, put n 4 = [a, b, c, d] := ⟨_, _, _, _, rfl⟩
theorem word_frame (p rest : List Nat) (h : p.length < 4294967296) : wordL (put p.length 4 ++ rest) = p.length := by
  obtain ⟨a, b, c, d, e⟩ := put4 p.length
  unfold wordL
  rw [four _ a b c d rest (by rw [e]; rfl), <- e, num_put, Nat.mod_eq_of_lt (by omega)]
theorem first_frame (p rest : List Nat) (h : p.length ≤ 1048576) : firstL (frameL p ++ rest) = some p := by
  have hw : wordL (frameL p ++ rest) = p.length := by
    unfold frameL
    rw [List.append_assoc]
    exact word_frame p _ (by omega)
  have hl := frame_len p
  have hd : ((frameL p ++ rest).drop 8).take p.length = p := by
    rw [List.drop_append_of_le_length (by omega), frame_drop]
    simp
  have hk : FirstOk (frameL p ++ rest) := by
    refine ⟨by rw [List.length_append]; omega, by rw [hw]; exact h, by rw [hw, List.length_append]; omega, ?_⟩
    rw [hw, hd, <- hl]
    simp
  rw [first_yes hk, hw, hd]
theorem scan_frame (p rest : List Nat) (h : p.length ≤ 1048576) : scanL (frameL p ++ rest) = (p :: (scanL rest).1, 8 + p.length + (scanL rest).2) := by
  rw [scan_some (first_frame p rest h), <- frame_len p]
  simp
/-- the register tells two beginnings apart -/
theorem byte_inj {c d z : Nat} (hc : c < 4294967296) (hd : d < 4294967296) (h : Crcm.byte c z = Crcm.byte d z) : c = d := by
  unfold Crcm.byte at h
  rw [Crcm.sN_xor, Crcm.sN_xor] at h
  have h1 : Crcm.sN 8 (c ^^^ d) = 0 := by
    rw [Crcm.sN_xor]
    have := congrArg (· ^^^ Crcm.sN 8 z) h
    simp only [Nat.xor_assoc, Nat.xor_self, Nat.xor_zero] at this
    rw [this, Nat.xor_self]
  by_cases h0 : c ^^^ d = 0
  · have := congrArg (· ^^^ d) h0
    simpa [Nat.xor_assoc] using this
  · exact absurd h1 (Crcm.sN_ne 8 _ (Nat.xor_lt_two_pow (n := 32) hc hd) h0)
theorem byte_lt {c z : Nat} (hc : c < 4294967296) (hz : z < 256) : Crcm.byte c z < 4294967296 := Crcm.sN_lt 8 _ (Nat.xor_lt_two_pow (n := 32) hc (by omega))
theorem reg_lt2 : ∀ (l : List Nat) (c : Nat), (∀ z ∈ l, z < 256) → c < 4294967296 → Crcm.reg c l < 4294967296
  | [], c, _, hc => hc
  | z :: l, c, h, hc => reg_lt2 l (Crcm.byte c z) (fun y hy => h y (by simp [hy])) (byte_lt hc (h z (by simp)))
theorem reg_inj : ∀ (l : List Nat) (c d : Nat), (∀ z ∈ l, z < 256) → c < 4294967296 → d < 4294967296 → Crcm.reg c l = Crcm.reg d l → c = d
  | [], c, d, _, _, _, h => h
  | z :: l, c, d, hl, hc, hd, h => byte_inj hc hd (reg_inj l _ _ (fun y hy => hl y (by simp [hy])) (byte_lt hc (hl z (by simp))) (byte_lt hd (hl z (by simp))) h)
theorem reg_append (c : Nat) (a b : List Nat) : Crcm.reg c (a ++ b) = Crcm.reg (Crcm.reg c a) b := by unfold Crcm.reg; rw [List.foldl_append]
theorem byte_ne {c x y : Nat} (hc : c < 4294967296) (hx : x < 256) (hy : y < 256) (h : x ≠ y) : Crcm.byte c x ≠ Crcm.byte c y := by
  intro he
  unfold Crcm.byte at he
  rw [Crcm.sN_xor, Crcm.sN_xor] at he
  have h1 : Crcm.sN 8 (x ^^^ y) = 0 := by
    rw [Crcm.sN_xor]
    have := congrArg (Crcm.sN 8 c ^^^ ·) he
    simp only [<- Nat.xor_assoc, Nat.xor_self, Nat.zero_xor] at this
    rw [this, Nat.xor_self]
  refine absurd h1 (Crcm.sN_ne 8 _ (Nat.xor_lt_two_pow (n := 32) (by omega) (by omega)) fun h0 => h ?_)
  have := congrArg (· ^^^ y) h0
  simpa [Nat.xor_assoc] using this
theorem crc_set (l : List Nat) (hl : ∀ z ∈ l, z < 256) (i y : Nat) (hi : i < l.length) (hy : y < 256) (h : l.getD i 0 ≠ y) : crcL (l.set i y) ≠ crcL l := by
  have hx : l.getD i 0 = l[i] := by simp [hi]
  rw [hx] at h
  have e1 : l = l.take i ++ l[i] :: l.drop (i + 1) := by simp
  have e2 : l.set i y = l.take i ++ y :: l.drop (i + 1) := by rw [List.set_eq_take_append_cons_drop, if_pos hi]
  have ht : ∀ z ∈ l.take i, z < 256 := fun z hz => hl z (List.mem_of_mem_take hz)
  have hd : ∀ z ∈ l.drop (i + 1), z < 256 := fun z hz => hl z (List.mem_of_mem_drop hz)
  have hr := reg_lt2 (l.take i) 4294967295 ht (by omega)
  have hli : l[i] < 256 := hl _ (List.getElem_mem hi)
  have key : Crcm.reg 4294967295 (l.set i y) ≠ Crcm.reg 4294967295 l := by
    intro he
    rw [e2, reg_append] at he
    rw [show Crcm.reg 4294967295 l = Crcm.reg 4294967295 (l.take i ++ l[i] :: l.drop (i + 1)) by rw [<- e1], reg_append] at he
    exact byte_ne hr hy hli (fun h' => h h'.symm) (reg_inj (l.drop (i + 1)) _ _ hd (byte_lt hr hy) (byte_lt hr hli) he)
  have g1 := reg_lt2 l 4294967295 hl (by omega)
  have g2 := reg_lt2 (l.set i y) 4294967295 (fun z hz => (List.mem_or_eq_of_mem_set hz).elim (hl z) (fun e => e ▸ hy)) (by omega)
  unfold crcL
  omega
theorem put_inj {a b : Nat} (ha : a < 4294967296) (hb : b < 4294967296) (h : put a 4 = put b 4) : a = b := by
  have := congrArg (num 0) h
  rw [num_put, num_put] at this
  omega
theorem crc_lt (l : List Nat) : crcL l < 4294967296 := by unfold crcL; omega
/-- a frame of which one byte behind the length is another one is no frame -/
theorem first_turned (p rest : List Nat) (hp : ∀ z ∈ p, z < 256) (h : p.length ≤ 1048576) (k y : Nat) (hk : 4 ≤ k) (hk2 : k < 8 + p.length) (hy : y < 256) (hne : (frameL p).getD k 0 ≠ y) : firstL ((frameL p).set k y ++ rest) = none := by
  refine first_none fun hf => ?_
  obtain ⟨h1, h2, h3, h4⟩ := hf
  have hl := frame_len p
  have hpl : (put p.length 4).length = 4 := put_len _ _
  have hset : (frameL p).set k y = put p.length 4 ++ ((put (crcL (put p.length 4 ++ p)) 4 ++ p).set (k - 4) y) := by
    unfold frameL
    rw [List.set_append_right _ _ (by omega), hpl]
  have hw : wordL ((frameL p).set k y ++ rest) = p.length := by
    rw [hset, List.append_assoc]
    exact word_frame p _ (by omega)
  rw [hw] at h4
  have hsl : ((frameL p).set k y).length = 8 + p.length := by rw [List.length_set, hl]
  rw [show ((frameL p).set k y ++ rest).take (8 + p.length) = (frameL p).set k y by rw [<- hsl]; simp] at h4
  have hd : (((frameL p).set k y ++ rest).drop 8).take p.length = ((frameL p).set k y).drop 8 := by
    rw [List.drop_append_of_le_length (by omega), List.take_append_of_le_length (by rw [List.length_drop]; omega), List.take_of_length_le (by rw [List.length_drop]; omega)]
  rw [hd] at h4
  by_cases h8 : k < 8
  · have e : ((frameL p).set k y).drop 8 = p := by rw [List.drop_set_of_lt h8, frame_drop]
    rw [e] at h4
    have := congrArg (fun l => l.getD k 0) h4
    simp only [List.getD_eq_getElem?_getD, List.getElem?_set_self (show k < (frameL p).length by omega)] at this
    exact hne (by rw [List.getD_eq_getElem?_getD]; exact this)
  · have e : ((frameL p).set k y).drop 8 = p.set (k - 8) y := by rw [List.drop_set, if_neg h8, frame_drop]
    rw [e, hset] at h4
    unfold frameL at h4
    rw [List.length_set] at h4
    have h5 := List.append_cancel_left h4
    have hq : (put (crcL (put p.length 4 ++ p)) 4).length = 4 := put_len _ _
    rw [List.set_append_right _ _ (by omega), hq] at h5
    have h6 := (List.append_inj h5 (by rw [put_len, put_len])).1
    have h7 := put_inj (crc_lt _) (crc_lt _) h6
    have hpk : p.getD (k - 8) 0 ≠ y := by
      intro hc
      apply hne
      have : (frameL p).getD k 0 = ((frameL p).drop 8).getD (k - 8) 0 := by
        rw [List.getD_eq_getElem?_getD, List.getD_eq_getElem?_getD, List.getElem?_drop]
        congr 2; omega
      rw [this, frame_drop]
      exact hc
    refine crc_set (put p.length 4 ++ p) (fun z hz => ?_) (k - 4) y (by rw [List.length_append, hpl]; omega) hy ?_ ?_
    · rcases List.mem_append.1 hz with hz | hz
      · exact put_byte _ _ z hz
      · exact hp z hz
    · rw [List.getD_eq_getElem?_getD, List.getElem?_append_right (by omega), hpl, show k - 4 - 4 = k - 8 by omega, <- List.getD_eq_getElem?_getD]
      exact hpk
    · rw [List.set_append_right _ _ (by omega), hpl, show k - 4 - 4 = k - 8 by omega]
      exact h7
end Go.Proofs.Ytjpcbmfnjifgfaa.Frm
