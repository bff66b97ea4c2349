/-
  Digits and bytes, there and back; which texts are sums.
-/
import Derived.Test.YtjoomfikfbbnmaaDoorPar
namespace Go.Proofs.YtjoomfikfbbnmaaDoor
open Go.RowKit
set_option linter.unusedVariables false

theorem chars_str (zs : List Nat) (hz : ∀ z ∈ zs, z < 256) : chars (str zs) = zs := by
  simp only [chars, str, List.map_map]
  apply List.ext_getElem
  · simp
  · intro i h1 h2
    have := hz _ (List.getElem_mem h2)
    simp
    omega
theorem str_chars (s : ByteArray) : str (chars s) = s := by
  obtain ⟨d⟩ := s
  simp only [chars, str, List.map_map]
  congr 1
  apply Array.ext
  · simp
  · intro i h1 h2
    simp
theorem hv_hexd (d : Nat) (h : d < 16) : Unm.hv (hexd d) = some d := by
  unfold hexd Unm.hv
  split
  · rw [if_pos (by omega)]; simp
  · rw [if_neg (by omega), if_pos (by omega)]; simp
theorem hexd_hv {c v : Nat} (h : Unm.hv c = some v) : hexd v = c := by
  unfold Unm.hv at h
  unfold hexd
  split at h
  · simp at h; split <;> omega
  · split at h
    · simp at h; split <;> omega
    · simp at h
theorem un_hex (zs : List Nat) (hz : ∀ z ∈ zs, z < 256) : Unm.un (hex zs) = some zs := by
  induction zs with
  | nil => rfl
  | cons z zs ih =>
    have h0 := hz z (by simp)
    have e : hex (z :: zs) = hexd (z / 16) :: hexd (z % 16) :: hex zs := by simp [hex]
    rw [e, Unm.un, hv_hexd _ (by omega), hv_hexd _ (by omega), ih (fun y hy => hz y (by simp [hy]))]
    simp
    omega
theorem hex_un (cs P : List Nat) (h : Unm.un cs = some P) : hex P = cs ∧ (∀ z ∈ P, z < 256) ∧ cs.length = 2 * P.length := by
  induction cs using Unm.un.induct generalizing P with
  | case1 => simp [Unm.un] at h; subst h; simp [hex]
  | case2 x => simp [Unm.un] at h
  | case3 x y r a b ha hb ih =>
    rw [Unm.un, ha, hb] at h
    simp at h
    obtain ⟨Q, hQ, rfl⟩ := h
    obtain ⟨i1, i2, i3⟩ := ih Q hQ
    have ha' := Unm.hv_lt ha
    have hb' := Unm.hv_lt hb
    refine ⟨?_, ?_, ?_⟩
    · have e : hex ((16 * a + b) :: Q) = hexd ((16 * a + b) / 16) :: hexd ((16 * a + b) % 16) :: hex Q := by simp [hex]
      rw [e, i1, show (16 * a + b) / 16 = a by omega, show (16 * a + b) % 16 = b by omega, hexd_hv ha, hexd_hv hb]
    · intro z hm
      simp at hm
      rcases hm with rfl | hm
      · omega
      · exact i2 z hm
    · simp; omega
  | case4 x y r hn =>
    rw [Unm.un] at h
    split at h
    · rename_i a b ha hb; exact absurd hb (hn a b ha)
    · simp at h
theorem chars_extract (s : ByteArray) (i j : Nat) : chars (s.extract i j) = ((chars s).take j).drop i := by
  simp only [chars, ByteArray.data_extract, Array.toList_extract, List.extract_eq_take_drop, List.drop_take, List.map_take, List.map_drop]
theorem pre7_eq (s : ByteArray) : pre7 s = decide ((chars s).take 7 = [115, 104, 97, 50, 53, 54, 58]) := by
  rw [Bool.eq_iff_iff]
  simp only [pre7, ByteArray.toList_eq, beq_iff_eq, decide_eq_true_eq]
  have e := chars_extract s 0 7
  rw [List.drop_zero] at e
  rw [← e]
  constructor
  · intro h
    simp only [chars, h]
    rfl
  · intro h
    have := congrArg str h
    rw [str_chars] at this
    rw [this]
    rfl
theorem pz_text (d : List Nat) (hl : d.length = 32) (hb : ∀ z ∈ d, z < 256) : pz (str ([115, 104, 97, 50, 53, 54, 58] ++ hex d)) = some d := by
  have hB : ∀ z ∈ [115, 104, 97, 50, 53, 54, 58] ++ hex d, z < 256 := by
    intro z hz
    rcases List.mem_append.1 hz with h | h
    · simp only [List.mem_cons, List.not_mem_nil, or_false] at h; omega
    · exact hex_byte d hb z h
  have hc := chars_str _ hB
  have hs : (str ([115, 104, 97, 50, 53, 54, 58] ++ hex d)).size = 71 := by
    rw [← chars_len, hc, List.length_append, hex_len, hl]; rfl
  unfold pz
  rw [if_pos ⟨hs, by rw [pre7_eq, hc]; simp⟩, chars_extract, hc, hs, List.take_of_length_le (by rw [List.length_append, hex_len, hl]; decide)]
  show Unm.un (hex d) = some d
  exact un_hex d hb
theorem pz_back {s : ByteArray} {m : List Nat} (h : pz s = some m) : str ([115, 104, 97, 50, 53, 54, 58] ++ hex m) = s := by
  unfold pz at h
  split at h
  · rename_i hc
    obtain ⟨h1, h2⟩ := hc
    have h3 := (hex_un _ _ h).1
    rw [chars_extract, ← chars_len, List.take_length] at h3
    rw [pre7_eq] at h2
    have h2 := of_decide_eq_true h2
    rw [h3, ← h2, List.take_append_drop, str_chars]
  · simp at h
end Go.Proofs.YtjoomfikfbbnmaaDoor
