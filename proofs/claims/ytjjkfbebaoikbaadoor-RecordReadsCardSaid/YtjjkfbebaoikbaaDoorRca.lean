/-
  Records and heads as plain data: which may be, their bytes, and what any bytes are.
-/
import Derived.Test.YtjjkfbebaoikbaaDoorTxt
import Derived.Test.YtjjkfbebaoikbaaDoorNmp
import Derived.Test.YtjjkfbebaoikbaaDoorPkb
namespace Go.Proofs.YtjjkfbebaoikbaaDoor.Rc
open Go.RowKit Go.Proofs.Nm Go.Proofs.YtjjkfbebaoikbaaDoor
set_option linter.unusedVariables false
/-- the bytes of a text -/
def sB (l : List UInt8) : List Nat := l.map (·.toNat)
/-- the text of bytes -/
def uB (zs : List Nat) : List UInt8 := zs.map UInt8.ofNat
theorem sB_len (l : List UInt8) : (sB l).length = l.length := by simp [sB]
theorem uB_len (l : List Nat) : (uB l).length = l.length := by simp [uB]
theorem sB_byte (l : List UInt8) : ∀ z ∈ sB l, z < 256 := fun z hz => by
  obtain ⟨c, _, rfl⟩ := List.mem_map.1 hz
  exact c.toNat_lt
theorem uB_sB (l : List UInt8) : uB (sB l) = l := by
  unfold uB sB
  rw [List.map_map]
  conv => rhs; rw [← List.map_id l]
  exact List.map_congr_left fun c _ => by simp
theorem sB_uB {zs : List Nat} (h : ∀ z ∈ zs, z < 256) : sB (uB zs) = zs := by
  unfold uB sB
  rw [List.map_map]
  conv => rhs; rw [← List.map_id zs]
  exact List.map_congr_left fun c hc => by
    show (UInt8.ofNat c).toNat = c
    rw [UInt8.toNat_ofNat']
    exact Nat.mod_eq_of_lt (h c hc)
/-- a tag -/
def tgB (l : List UInt8) : Bool := isTagL l && decide (l.length ≤ 128)
/-- a record -/
structure Rcv where
  k : Int
  repo : List UInt8
  tag : List UInt8
  dig : List Nat
  t : Int
def dOk (x : List Nat) : Prop := x.length = 32 ∧ ∀ z ∈ x, z < 256
theorem dOk_zs : dOk zs32 := ⟨zs32_len, fun z hz => by have := List.eq_of_mem_replicate hz; omega⟩
def kindB (r : Rcv) : Bool := decide (r.k = 1) || (decide (r.k = 2) && decide (r.dig = zs32))
def rightB (r : Rcv) : Bool := kindB r && repoB r.repo && tgB r.tag && decide (0 ≤ r.t ∧ r.t ≤ 1099511627776)
def txL (zs : List Nat) : List Nat := Cntm.cnt zs.length ++ zs
def encL (r : Rcv) : List Nat := [r.k.toNat] ++ (txL (sB r.repo) ++ (txL (sB r.tag) ++ ((if r.k = 1 then r.dig else []) ++ Numm.put r.t.toNat 8)))
def rc0 : Rcv := ⟨0, [], [], zs32, 0⟩
/-- a record with what bytes begin with, and the bytes behind -/
def nmL (zs : List Nat) : Option (Rcv × List Nat) :=
  if zs.length = 0 then none
  else if (rt (zs.drop 1) 128).2.2 ≠ 0 then none
  else if (rt (zs.drop (1 + (rt (zs.drop 1) 128).2.1)) 128).2.2 ≠ 0 then none
  else some (⟨(zs.getD 0 0 : Nat), uB (rt (zs.drop 1) 128).1, uB (rt (zs.drop (1 + (rt (zs.drop 1) 128).2.1)) 128).1, zs32, 0⟩,
    zs.drop (1 + (rt (zs.drop 1) 128).2.1 + (rt (zs.drop (1 + (rt (zs.drop 1) 128).2.1)) 128).2.1))
def szD (k : Int) : Nat := if k = 1 then 32 else 0
def decL (zs : List Nat) : Option Rcv :=
  match nmL zs with
  | none => none
  | some (r, rest) =>
    if rest.length ≠ szD r.k + 8 then none
    else if rightB ⟨r.k, r.repo, r.tag, if r.k = 1 then rest.take 32 else zs32, (Numm.num 0 (rest.drop (szD r.k)) : Nat)⟩ = true then some ⟨r.k, r.repo, r.tag, if r.k = 1 then rest.take 32 else zs32, (Numm.num 0 (rest.drop (szD r.k)) : Nat)⟩
    else none
/-- what the document reads ahead of its look at the bytes -/
def preL (r : Rcv) (rest : List Nat) : Rcv := ⟨r.k, r.repo, r.tag, if r.k = 1 then rest.take 32 ++ List.replicate (32 - rest.length) 0 else zs32, (Numm.num 0 (rest.drop (rest.length - 8)) : Nat)⟩
theorem rt_spec {zs P : List Nat} {u : Nat} (hz : ∀ z ∈ zs, z < 256) (h : rt zs 128 = (P, u, 0)) : zs.take u = txL P ∧ u = (txL P).length ∧ u ≤ zs.length ∧ P.length ≤ 128 ∧ (∀ z ∈ P, z < 256) := by
  obtain ⟨x, v, e, hrd⟩ : ∃ x v e, Cntm.rd 0 0 zs = (x, v, e) := ⟨_, _, _, rfl⟩
  by_cases he : e = 0
  · subst he
    by_cases hl : (128 : Int) < 0 ∨ (128 : Int) < (x : Int)
    · rw [rt_lim hrd hl] at h; cases h
    · by_cases hs : zs.length - v < x
      · rw [rt_short hrd hl hs] at h; cases h
      · rw [rt_ok hrd hl hs] at h
        obtain ⟨rfl, h2⟩ := Prod.mk.inj h
        obtain ⟨rfl, -⟩ := Prod.mk.inj h2
        obtain ⟨m, hx, h1, h3, h4, -⟩ := Cntm.rd_ok zs 0 0 x v hz hrd
        have hxm : x = m := by rw [hx]; simp
        subst hxm
        rw [Nat.sub_zero] at h4
        have hpl : ((zs.drop v).take x).length = x := by rw [List.length_take, List.length_drop]; omega
        have hcl : (Cntm.cnt x).length = v := by rw [← h4, List.length_take]; omega
        refine ⟨?_, ?_, by omega, by omega, fun z hz' => hz z (List.mem_of_mem_drop (List.mem_of_mem_take hz'))⟩
        · unfold txL
          rw [hpl, ← h4, List.take_add]
        · unfold txL
          rw [List.length_append, hpl, hcl]
  · rw [rt_err hrd he] at h
    have := (Prod.mk.inj (Prod.mk.inj h).2).2
    omega
theorem rt_txL {P : List Nat} (rest : List Nat) (hp : P.length ≤ 128) : rt (txL P ++ rest) 128 = (P, (txL P).length, 0) := by
  have hrd := Cntm.rd_cnt P.length 0 0 (P ++ rest) (by omega) (by omega)
  rw [Nat.zero_add, Nat.zero_add, Nat.mul_zero, Nat.pow_zero, Nat.mul_one] at hrd
  unfold txL
  rw [List.append_assoc]
  rw [rt_ok hrd (by omega) (by simp only [List.length_append]; omega), List.drop_left, List.take_left, List.length_append]
theorem nmL_some {zs : List Nat} {r : Rcv} {rest : List Nat} (hz : ∀ z ∈ zs, z < 256) (h : nmL zs = some (r, rest)) :
    r.dig = zs32 ∧ r.t = 0 ∧ 0 ≤ r.k ∧ r.k < 256 ∧ r.repo.length ≤ 128 ∧ r.tag.length ≤ 128 ∧ zs = [r.k.toNat] ++ (txL (sB r.repo) ++ (txL (sB r.tag) ++ rest)) ∧ (∀ z ∈ rest, z < 256) := by
  unfold nmL at h
  by_cases h0 : zs.length = 0
  · rw [if_pos h0] at h; cases h
  rw [if_neg h0] at h
  obtain ⟨P, u, e, hr1⟩ : ∃ P u e, rt (zs.drop 1) 128 = (P, u, e) := ⟨_, _, _, rfl⟩
  rw [hr1] at h
  simp only at h
  by_cases h1 : e = 0
  · subst h1
    rw [if_neg (by omega)] at h
    obtain ⟨Q, v, f, hr2⟩ : ∃ Q v f, rt (zs.drop (1 + u)) 128 = (Q, v, f) := ⟨_, _, _, rfl⟩
    rw [hr2] at h
    simp only at h
    by_cases h2 : f = 0
    · subst h2
      rw [if_neg (by omega)] at h
      obtain ⟨rfl, rfl⟩ := Prod.mk.inj (Option.some.inj h)
      obtain ⟨a1, a2, a3, a4, a5⟩ := rt_spec (fun z hz' => hz z (List.mem_of_mem_drop hz')) hr1
      obtain ⟨b1, b2, b3, b4, b5⟩ := rt_spec (fun z hz' => hz z (List.mem_of_mem_drop hz')) hr2
      rw [List.length_drop] at a3 b3
      have hk : zs.getD 0 0 < 256 := by
        match zs, h0 with
        | z :: l, _ => exact hz z (by simp)
      refine ⟨rfl, rfl, by simp only; omega, by simp only; omega, by simp only [uB_len]; omega, by simp only [uB_len]; omega, ?_, fun z hz' => hz z (List.mem_of_mem_drop hz')⟩
      simp only [sB_uB a5, sB_uB b5, Int.toNat_natCast]
      rw [← b1, ← a1]
      have e1 : zs.drop (1 + u + v) = (zs.drop (1 + u)).drop v := by rw [List.drop_drop]
      rw [e1, List.take_append_drop]
      have e2 : zs.drop (1 + u) = (zs.drop 1).drop u := by rw [List.drop_drop]
      rw [e2, List.take_append_drop]
      match zs, h0 with
      | z :: l, _ => rfl
    · rw [if_pos h2] at h; cases h
  · rw [if_pos h1] at h; cases h
theorem nmL_enc (k : Int) (repo tag : List UInt8) (rest : List Nat) (hk : 0 ≤ k) (h1 : repo.length ≤ 128) (h2 : tag.length ≤ 128) :
    nmL ([k.toNat] ++ (txL (sB repo) ++ (txL (sB tag) ++ rest))) = some (⟨k, repo, tag, zs32, 0⟩, rest) := by
  unfold nmL
  have e1 := rt_txL (P := sB repo) (txL (sB tag) ++ rest) (by rw [sB_len]; exact h1)
  have e2 := rt_txL (P := sB tag) rest (by rw [sB_len]; exact h2)
  rw [if_neg (by simp)]
  have d1 : ([k.toNat] ++ (txL (sB repo) ++ (txL (sB tag) ++ rest))).drop 1 = txL (sB repo) ++ (txL (sB tag) ++ rest) := rfl
  have d2 : ([k.toNat] ++ (txL (sB repo) ++ (txL (sB tag) ++ rest))).drop (1 + (txL (sB repo)).length) = txL (sB tag) ++ rest := by
    rw [← List.drop_drop, d1, List.drop_left]
  have d3 : ([k.toNat] ++ (txL (sB repo) ++ (txL (sB tag) ++ rest))).drop (1 + (txL (sB repo)).length + (txL (sB tag)).length) = rest := by
    rw [← List.drop_drop, d2, List.drop_left]
  rw [d1, e1]
  simp only [ne_eq, not_true_eq_false, if_false]
  rw [d2, e2]
  simp only [ne_eq, not_true_eq_false, if_false]
  rw [d3, uB_sB, uB_sB]
  have : (([k.toNat] ++ (txL (sB repo) ++ (txL (sB tag) ++ rest))).getD 0 0 : Nat) = k.toNat := rfl
  rw [this, Int.toNat_of_nonneg hk]
theorem put_num8 (zs : List Nat) (h : ∀ z ∈ zs, z < 256) (hl : zs.length = 8) : Numm.put (Numm.num 0 zs) 8 = zs := by
  rw [← hl]
  clear hl
  obtain ⟨k, hk⟩ : ∃ k, zs.length = k := ⟨_, rfl⟩
  induction k generalizing zs with
  | zero => obtain rfl := List.eq_nil_of_length_eq_zero hk; rfl
  | succ k ih =>
    have hne : zs ≠ [] := by intro e; rw [e] at hk; simp at hk
    have hz := List.dropLast_concat_getLast hne
    obtain ⟨ys, hys⟩ : ∃ ys, ys = zs.dropLast := ⟨_, rfl⟩
    obtain ⟨x, hx⟩ : ∃ x, x = zs.getLast hne := ⟨_, rfl⟩
    rw [← hys, ← hx] at hz
    have hx8 : x < 256 := by rw [hx]; exact h _ (List.getLast_mem hne)
    have hyl : ys.length = k := by rw [hys, List.length_dropLast]; omega
    have := ih ys (fun z hz' => h z (by rw [← hz]; exact List.mem_append_left _ hz')) hyl
    rw [← hz, List.length_append, List.length_singleton, hyl]
    have e : Numm.num 0 (ys ++ [x]) = Numm.num 0 ys * 256 + x := by simp [Numm.num, List.foldl_append]
    rw [e, Numm.put, show (Numm.num 0 ys * 256 + x) / 256 = Numm.num 0 ys by omega, show (Numm.num 0 ys * 256 + x) % 256 = x by omega]
    rw [hyl] at this
    rw [this]
theorem right_parts {r : Rcv} (h : rightB r = true) : (r.k = 1 ∨ r.k = 2 ∧ r.dig = zs32) ∧ r.repo.length ≤ 128 ∧ r.tag.length ≤ 128 ∧ 0 ≤ r.t ∧ r.t ≤ 1099511627776 ∧ kindB r = true ∧ repoB r.repo = true ∧ tgB r.tag = true := by
  unfold rightB at h
  rw [Bool.and_eq_true, Bool.and_eq_true, Bool.and_eq_true] at h
  obtain ⟨⟨⟨h1, h2⟩, h3⟩, h4⟩ := h
  have h4' := of_decide_eq_true h4
  have k1 := h1
  have k2 := h2
  have k3 := h3
  unfold kindB at k1
  unfold repoB at k2
  unfold tgB at k3
  rw [Bool.or_eq_true, Bool.and_eq_true] at k1
  rw [Bool.and_eq_true] at k2 k3
  exact ⟨k1.imp of_decide_eq_true fun e => ⟨of_decide_eq_true e.1, of_decide_eq_true e.2⟩, of_decide_eq_true k2.2, of_decide_eq_true k3.2, h4'.1, h4'.2, h1, h2, h3⟩
/-- what is read has just these bytes -/
theorem decL_some {zs : List Nat} {r : Rcv} (hz : ∀ z ∈ zs, z < 256) (h : decL zs = some r) : encL r = zs ∧ rightB r = true ∧ dOk r.dig := by
  unfold decL at h
  cases hn : nmL zs with
  | none => rw [hn] at h; cases h
  | some p =>
    obtain ⟨q, rest⟩ := p
    rw [hn] at h
    simp only at h
    by_cases hl : rest.length = szD q.k + 8
    · rw [if_neg (by simpa using hl)] at h
      by_cases hr : rightB ⟨q.k, q.repo, q.tag, if q.k = 1 then rest.take 32 else zs32, (Numm.num 0 (rest.drop (szD q.k)) : Nat)⟩ = true
      · rw [if_pos hr] at h
        obtain rfl := Option.some.inj h
        obtain ⟨-, -, h0, h1, h2, h3, h4, h5⟩ := nmL_some hz hn
        refine ⟨?_, hr, ?_⟩
        · conv => rhs; rw [h4]
          unfold encL
          simp only [Int.toNat_natCast]
          have hp := put_num8 (rest.drop (szD q.k)) (fun z hz' => h5 z (List.mem_of_mem_drop hz')) (by rw [List.length_drop]; omega)
          rw [hp]
          unfold szD at hl ⊢
          by_cases hk : q.k = 1
          · simp only [if_pos hk]
            rw [List.take_append_drop]
          · simp only [if_neg hk, List.drop_zero, List.nil_append]
        · simp only
          unfold szD at hl
          by_cases hk : q.k = 1
          · rw [if_pos hk] at hl ⊢
            exact ⟨by rw [List.length_take]; omega, fun z hz' => h5 z (List.mem_of_mem_take hz')⟩
          · rw [if_neg hk]
            exact dOk_zs
      · rw [if_neg hr] at h; cases h
    · rw [if_pos (by simpa using hl)] at h; cases h
/-- what may be is read back -/
theorem decL_enc {r : Rcv} (hr : rightB r = true) (hd : dOk r.dig) : decL (encL r) = some r := by
  obtain ⟨h1, h2, h3, h4, h5, -⟩ := right_parts hr
  have hk : 0 ≤ r.k := by omega
  unfold decL encL
  rw [nmL_enc r.k r.repo r.tag _ hk h2 h3]
  simp only
  have hpl := Numm.put_len r.t.toNat 8
  have hnum : Numm.num 0 (Numm.put r.t.toNat 8) = r.t.toNat := by
    rw [Numm.num_put]
    exact Nat.mod_eq_of_lt (by omega)
  by_cases h : r.k = 1
  · unfold szD
    rw [if_pos h, if_neg (by rw [if_pos h, List.length_append, hpl, hd.1]; omega)]
    simp only [if_pos h]
    rw [List.take_append_of_le_length (by rw [hd.1]; omega), List.take_of_length_le (by rw [hd.1]; omega), List.drop_append_of_le_length (by rw [hd.1]; omega), List.drop_of_length_le (by rw [hd.1]; omega), List.nil_append, hnum, Int.toNat_of_nonneg h4]
    exact if_pos hr
  · have hz : r.dig = zs32 := (h1.resolve_left h).2
    unfold szD
    rw [if_neg h, if_neg (by rw [if_neg h, List.nil_append, hpl]; omega)]
    simp only [if_neg h, List.nil_append, List.drop_zero]
    rw [hnum, Int.toNat_of_nonneg h4, ← hz]
    exact if_pos hr
theorem encL_inj {a b : Rcv} (ha : rightB a = true) (hb : rightB b = true) (da : dOk a.dig) (db : dOk b.dig) (h : encL a = encL b) : a = b := by
  have h1 := decL_enc ha da
  have h2 := decL_enc hb db
  rw [h, h2] at h1
  exact (Option.some.inj h1).symm
theorem encL_len (r : Rcv) (hd : r.dig.length = 32) : (encL r).length = 1 + ((txL (sB r.repo)).length + ((txL (sB r.tag)).length + (szD r.k + 8))) := by
  unfold encL szD
  rw [List.length_append, List.length_append, List.length_append, List.length_append, Numm.put_len]
  split <;> simp [hd]
/-- what the document reads is what the program reads -/
theorem decL_ref {zs rest : List Nat} {q : Rcv} (hz : ∀ z ∈ zs, z < 256) (hn : nmL zs = some (q, rest)) :
    decL zs = if rest.length < 8 ∨ 1099511627776 < Numm.num 0 (rest.drop (rest.length - 8)) ∨ rightB (preL q rest) = false ∨ encL (preL q rest) ≠ zs then none else some (preL q rest) := by
  obtain ⟨-, -, h0, h1, h2, h3, h4, h5⟩ := nmL_some hz hn
  have hpd : (preL q rest).dig.length = 32 := by
    unfold preL
    simp only
    split
    · rw [List.length_append, List.length_take, List.length_replicate]; omega
    · exact zs32_len
  have hel := encL_len (preL q rest) hpd
  have hzl : zs.length = 1 + ((txL (sB q.repo)).length + ((txL (sB q.tag)).length + rest.length)) := by
    rw [h4]; simp only [List.length_append, List.length_singleton]
  unfold decL
  rw [hn]
  simp only
  by_cases hl : rest.length = szD q.k + 8
  · rw [if_neg (by simpa using hl)]
    have hs8 : rest.length - 8 = szD q.k := by omega
    have hpe : preL q rest = ⟨q.k, q.repo, q.tag, if q.k = 1 then rest.take 32 else zs32, (Numm.num 0 (rest.drop (szD q.k)) : Nat)⟩ := by
      unfold preL
      rw [hs8]
      unfold szD at hl
      by_cases hk : q.k = 1
      · rw [if_pos hk] at hl
        rw [if_pos hk, if_pos hk, show 32 - rest.length = 0 by omega, List.replicate_zero, List.append_nil]
      · rw [if_neg hk, if_neg hk]
    rw [← hpe, hs8]
    by_cases hr : rightB (preL q rest) = true
    · rw [if_pos hr]
      obtain ⟨-, -, -, -, ht, -⟩ := right_parts hr
      have ht2 : Numm.num 0 (rest.drop (szD q.k)) ≤ 1099511627776 := by
        rw [hpe] at ht
        simp only at ht
        omega
      have he : encL (preL q rest) = zs := by
        refine (decL_some hz (r := preL q rest) ?_).1
        unfold decL
        rw [hn]
        simp only
        rw [if_neg (by simpa using hl), ← hpe, if_pos hr]
      rw [if_neg]
      rintro (h | h | h | h)
      · omega
      · omega
      · rw [hr] at h; cases h
      · exact h he
    · rw [if_neg hr, if_pos (.inr (.inr (.inl (by simpa using hr))))]
  · rw [if_pos (by simpa using hl), if_pos]
    by_cases h8 : rest.length < 8
    · exact .inl h8
    · refine .inr (.inr (.inr fun he => hl ?_))
      rw [he] at hel
      have e1 : (preL q rest).repo = q.repo := rfl
      have e2 : (preL q rest).tag = q.tag := rfl
      have e3 : (preL q rest).k = q.k := rfl
      rw [e1, e2, e3] at hel
      omega
theorem decL_none {zs : List Nat} (hn : nmL zs = none) : decL zs = none := by unfold decL; rw [hn]
/-- a head -/
structure Hdv where
  n : Int
  root : List Nat
  t : Int
def hrB (h : Hdv) : Bool := decide (0 ≤ h.n ∧ h.n ≤ 1048576) && decide (0 ≤ h.t ∧ h.t ≤ 1099511627776)
def hencL (h : Hdv) : List Nat := [7] ++ (Numm.put h.n.toNat 8 ++ (h.root ++ Numm.put h.t.toNat 8))
def hdecL (zs : List Nat) : Option Hdv :=
  if zs.length = 49 ∧ zs.getD 0 0 = 7 ∧ Numm.num 0 ((zs.drop 1).take 8) ≤ 1048576 ∧ Numm.num 0 (zs.drop 41) ≤ 1099511627776 then some ⟨(Numm.num 0 ((zs.drop 1).take 8) : Nat), (zs.drop 9).take 32, (Numm.num 0 (zs.drop 41) : Nat)⟩ else none
theorem hdecL_enc {h : Hdv} (hr : hrB h = true) (hd : dOk h.root) : hdecL (hencL h) = some h := by
  unfold hrB at hr
  rw [Bool.and_eq_true] at hr
  have h1 := of_decide_eq_true hr.1
  have h2 := of_decide_eq_true hr.2
  have p1 := Numm.put_len h.n.toNat 8
  have p2 := Numm.put_len h.t.toNat 8
  have n1 : Numm.num 0 (Numm.put h.n.toNat 8) = h.n.toNat := by rw [Numm.num_put]; exact Nat.mod_eq_of_lt (by omega)
  have n2 : Numm.num 0 (Numm.put h.t.toNat 8) = h.t.toNat := by rw [Numm.num_put]; exact Nat.mod_eq_of_lt (by omega)
  obtain ⟨d, hd1⟩ := hd
  have hl : (hencL h).length = 49 := by unfold hencL; simp only [List.length_append, p1, p2, d, List.length_singleton]
  have e0 : (hencL h).getD 0 0 = 7 := rfl
  have e1 : (hencL h).drop 1 = Numm.put h.n.toNat 8 ++ (h.root ++ Numm.put h.t.toNat 8) := rfl
  have e2 : ((hencL h).drop 1).take 8 = Numm.put h.n.toNat 8 := by rw [e1, List.take_append_of_le_length (by omega), List.take_of_length_le (by omega)]
  have e3 : (hencL h).drop 9 = h.root ++ Numm.put h.t.toNat 8 := by
    rw [show (9 : Nat) = 1 + 8 from rfl, ← List.drop_drop, e1, List.drop_append_of_le_length (by omega), List.drop_of_length_le (by omega), List.nil_append]
  have e4 : ((hencL h).drop 9).take 32 = h.root := by rw [e3, List.take_append_of_le_length (by omega), List.take_of_length_le (by omega)]
  have e5 : (hencL h).drop 41 = Numm.put h.t.toNat 8 := by
    rw [show (41 : Nat) = 9 + 32 from rfl, ← List.drop_drop, e3, List.drop_append_of_le_length (by omega), List.drop_of_length_le (by omega), List.nil_append]
  unfold hdecL
  rw [e2, e4, e5, n1, n2, if_pos ⟨hl, e0, by omega, by omega⟩, Int.toNat_of_nonneg h1.1, Int.toNat_of_nonneg h2.1]
theorem hdecL_some {zs : List Nat} {h : Hdv} (hz : ∀ z ∈ zs, z < 256) (he : hdecL zs = some h) : dOk h.root ∧ hrB h = true := by
  unfold hdecL at he
  split at he
  · rename_i hc
    obtain rfl := Option.some.inj he
    refine ⟨⟨by simp only [List.length_take, List.length_drop]; omega, fun z hz' => hz z (List.mem_of_mem_drop (List.mem_of_mem_take hz'))⟩, ?_⟩
    unfold hrB
    simp only [Bool.and_eq_true, decide_eq_true_eq]
    omega
  · cases he
/-- a record's bytes are no head's -/
theorem hdecL_rec {r : Rcv} (hr : rightB r = true) : hdecL (encL r) = none := by
  obtain ⟨h1, -⟩ := right_parts hr
  unfold hdecL
  refine if_neg ?_
  rintro ⟨-, h, -⟩
  have : r.k.toNat = 7 := h
  omega
end Go.Proofs.YtjjkfbebaoikbaaDoor.Rc
