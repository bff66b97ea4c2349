/-
  Records laid behind one another, plain: what is scanned where one byte is another one.
-/
import Derived.Test.YtjpcbmfnjifgfaaJfp
namespace Go.Proofs.Ytjpcbmfnjifgfaa.Frm
set_option linter.unusedVariables false
def flatF (ps : List (List Nat)) : List Nat := (ps.map frameL).flatten
theorem flat_app (a b : List (List Nat)) : flatF (a ++ b) = flatF a ++ flatF b := by simp [flatF]
theorem flat_one (p : List Nat) : flatF [p] = frameL p := by simp [flatF]
theorem flat_snoc (ps : List (List Nat)) (k : Nat) (p : List Nat) (h : ps[k]? = some p) : flatF (ps.take (k + 1)) = flatF (ps.take k) ++ frameL p := by
  rw [List.take_add_one, h, flat_app]
  simp [flatF]
theorem flat_byte (ps : List (List Nat)) (h : ∀ p ∈ ps, ∀ z ∈ p, z < 256) : ∀ z ∈ flatF ps, z < 256 := by
  intro z hz
  unfold flatF at hz
  obtain ⟨l, hl, hz⟩ := List.mem_flatten.1 hz
  obtain ⟨p, hp, rfl⟩ := List.mem_map.1 hl
  exact frame_byte p (h p hp) z hz
theorem flat_len (ps : List (List Nat)) (h : ∀ p ∈ ps, p.length ≤ 400) : (flatF ps).length ≤ 408 * ps.length := by
  induction ps with
  | nil => simp [flatF]
  | cons p ps ih =>
    have h1 := ih (fun q hq => h q (by simp [hq]))
    have h2 := h p (by simp)
    have h3 := frame_len p
    have e : flatF (p :: ps) = frameL p ++ flatF ps := by simp [flatF]
    rw [e, List.length_append, List.length_cons]
    omega
theorem flat_pos (ps : List (List Nat)) (h : 0 < ps.length) : 0 < (flatF ps).length := by
  match ps, h with
  | p :: ps, _ =>
    have h3 := frame_len p
    have e : flatF (p :: ps) = frameL p ++ flatF ps := by simp [flatF]
    rw [e, List.length_append]
    omega
theorem scan_pre (X : List Nat) : ∀ (qs : List (List Nat)), (∀ p ∈ qs, p.length ≤ 1048576) → (scanL (flatF qs ++ X)).1 = qs ++ (scanL X).1
  | [], _ => by simp [flatF]
  | p :: qs, h => by
    have e : flatF (p :: qs) ++ X = frameL p ++ (flatF qs ++ X) := by simp [flatF]
    rw [e, scan_frame p _ (h p (by simp))]
    show p :: (scanL (flatF qs ++ X)).1 = _
    rw [scan_pre X qs (fun q hq => h q (by simp [hq]))]
    rfl
theorem scan_cnt : ∀ (n : Nat) (b : List Nat), b.length ≤ n → 8 * (scanL b).1.length ≤ b.length
  | 0, b, hn => by rw [scan_none (first_short (by omega))]; exact Nat.zero_le _
  | n + 1, b, hn => by
    cases hf : firstL b with
    | none => rw [scan_none hf]; exact Nat.zero_le _
    | some p =>
      obtain ⟨h1, _⟩ := first_some hf
      rw [scan_some hf]
      have := scan_cnt n (b.drop (8 + p.length)) (by rw [List.length_drop]; omega)
      rw [List.length_drop] at this
      simp only [List.length_cons]
      omega
theorem turned (ps : List (List Nat)) (hb : ∀ p ∈ ps, ∀ z ∈ p, z < 256) (hl : ∀ p ∈ ps, p.length ≤ 1048576) (k t y : Nat) (p : List Nat) (hk : ps[k]? = some p)
    (h1 : (flatF (ps.take k)).length ≤ t) (h2 : t < (flatF (ps.take (k + 1))).length) (hy : y < 256) (hne : (flatF ps).getD t 0 ≠ y) :
    ∃ more, (scanL ((flatF ps).set t y)).1 = ps.take k ++ more ∧ (4 ≤ t - (flatF (ps.take k)).length → more = []) := by
  have hkl := (List.getElem?_eq_some_iff.1 hk).1
  have hpm : p ∈ ps := List.mem_of_getElem? hk
  have e1 : ps = ps.take k ++ (p :: ps.drop (k + 1)) := by
    have h3 : ps[k] = p := (List.getElem?_eq_some_iff.1 hk).2
    conv => lhs; rw [← List.take_append_drop k ps, List.drop_eq_getElem_cons hkl, h3]
  have e2 : flatF ps = flatF (ps.take k) ++ (frameL p ++ flatF (ps.drop (k + 1))) := by
    conv => lhs; rw [e1]
    rw [flat_app]
    simp [flatF]
  rw [flat_snoc ps k p hk, List.length_append] at h2
  obtain ⟨F, hF⟩ : ∃ F, F = flatF (ps.take k) := ⟨_, rfl⟩
  obtain ⟨r, hr⟩ : ∃ r, r = flatF (ps.drop (k + 1)) := ⟨_, rfl⟩
  rw [← hF, ← hr] at e2
  rw [← hF] at h1 h2 ⊢
  have e3 : (flatF ps).set t y = F ++ ((frameL p).set (t - F.length) y ++ r) := by
    rw [e2, List.set_append_right _ _ h1, List.set_append_left _ _ (by omega)]
  have hne2 : (frameL p).getD (t - F.length) 0 ≠ y := by
    intro hc
    apply hne
    rw [e2, List.getD_eq_getElem?_getD, List.getElem?_append_right h1, List.getElem?_append_left (by omega), ← List.getD_eq_getElem?_getD]
    exact hc
  rw [e3, hF, scan_pre _ _ (fun q hq => hl q (List.mem_of_mem_take hq))]
  refine ⟨_, rfl, fun h4 => ?_⟩
  rw [← hF] at h4 ⊢
  rw [scan_none (first_turned p r (hb p hpm) (hl p hpm) (t - F.length) y h4 (by rw [← frame_len p]; omega) hy hne2)]
theorem xor_ne (x t : Nat) (h : t ≠ 0) : x ≠ x ^^^ t := by
  intro e
  apply h
  have := congrArg (x ^^^ ·) e
  simp only [Nat.xor_self, ← Nat.xor_assoc, Nat.zero_xor] at this
  exact this.symm
theorem xor_lt (x t : Nat) (h : x < 256) (h2 : t < 256) : x ^^^ t < 256 := Nat.xor_lt_two_pow (n := 8) h h2
end Go.Proofs.Ytjpcbmfnjifgfaa.Frm
