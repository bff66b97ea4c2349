/-
  The walk over the law of a nil table, and of changes above what is done at once.
-/
import Derived.Test.YtjjkfbebaoikbaaTbl
import Derived.Test.YtjjkfbebaoikbaaTbc
namespace Go.Proofs.Ytjjkfbebaoikbaa
open Go.RowKit
set_option linter.unusedVariables false
theorem chgInfo : (Try.prog.info? 51).map (fun i => (i.zero, i.size, i.bytes)) = some (some (.agg #[.string ⟨#[]⟩, .bool false, .slice none 0 0]), 3, 48) := by kernel_rfl
/-- 257 changes of which the first k have their key -/
def mkX (k : Nat) (xs : List Value) : Prop := ∀ i, i < 257 → xs[i * 3]? = some (.string (if i < k then ⟨#[107]⟩ else ⟨#[]⟩)) ∧ xs[i * 3 + 1]? = some (.bool false) ∧ xs[i * 3 + 2]? = some (.slice none 0 0)
def MkR (B g k : Nat) (W : World) : Prop := ∃ xs, W.ownsRow B 51 3 (.slice (some ⟨g, 0, none⟩) 257 257) 257 xs ∧ mkX k xs
theorem mkX_zero : mkX 0 (madeCells (#[.string ⟨#[]⟩, .bool false, .slice none 0 0] : Array Value) (257 * 3)).toList := fun i hi => by
  have key : ∀ j, j < 771 → (madeCells (#[.string ⟨#[]⟩, .bool false, .slice none 0 0] : Array Value) (257 * 3)).toList[j]? = some ((#[.string ⟨#[]⟩, .bool false, .slice none 0 0] : Array Value)[j % 3]!) := fun j hj => by
    unfold madeCells
    rw [Array.getElem?_toList, Array.getElem?_map, Array.getElem?_range, if_pos (show j < 257 * 3 by omega)]
    rfl
  refine ⟨?_, ?_, ?_⟩
  · rw [key _ (by omega), show i * 3 % 3 = 0 by omega, if_neg (by omega)]; rfl
  · rw [key _ (by omega), show (i * 3 + 1) % 3 = 1 by omega]; rfl
  · rw [key _ (by omega), show (i * 3 + 2) % 3 = 2 by omega]; rfl
theorem MkR.cell {B g k : Nat} {W : World} (h : MkR B g k W) (i : Nat) (hi : i < 257) : W.cell? ⟨g, i * 3, none⟩ = some (.string (if i < k then ⟨#[107]⟩ else ⟨#[]⟩)) ∧ W.cell? ⟨g, i * 3 + 1, none⟩ = some (.bool false) ∧ W.cell? ⟨g, i * 3 + 2, none⟩ = some (.slice none 0 0) ∧ W.frozen? ⟨g, i * 3, none⟩ = false := by
  obtain ⟨xs, h1, h2⟩ := h
  obtain ⟨e1, e2, e3⟩ := h2 i hi
  exact ⟨(h1.cellAt _ (by omega)).trans e1, (h1.cellAt _ (by omega)).trans e2, (h1.cellAt _ (by omega)).trans e3, h1.frozenAt _⟩
theorem MkR.step {B g k : Nat} {W : World} (h : MkR B g k W) (hk : k < 257) : MkR B g (k + 1) (W.setCell ⟨g, k * 3, none⟩ (.string ⟨#[107]⟩)) := by
  obtain ⟨xs, h1, h2⟩ := h
  refine ⟨_, (h1.stored (k * 3) (.string ⟨#[107]⟩)).1, fun i hi => ?_⟩
  have hl : xs.length = 771 := h1.1
  obtain ⟨e1, e2, e3⟩ := h2 i hi
  refine ⟨?_, ?_, ?_⟩
  · by_cases hik : i = k
    · subst hik
      rw [List.getElem?_set_self (by omega), if_pos (by omega)]
    · rw [List.getElem?_set_ne (by omega), e1]
      by_cases hlt : i < k
      · rw [if_pos hlt, if_pos (by omega)]
      · rw [if_neg hlt, if_neg (by omega)]
  · rw [List.getElem?_set_ne (by omega), e2]
  · rw [List.getElem?_set_ne (by omega), e3]
theorem MkR.lt {B g k : Nat} {W : World} (h : MkR B g k W) : g < W.heap.size ∧ B ≤ g := by
  obtain ⟨xs, h1, _⟩ := h
  rcases h1.2 with ⟨h0, _⟩ | ⟨g', cap, cur, hv, hb, hh, -⟩
  · cases h0
  · cases hv
    exact ⟨(Array.getElem?_eq_some_iff.1 hh).1, hb⟩
theorem MkR.cg {B g : Nat} {W : World} (h : MkR B g 257 W) (m : Nat) (hm : m ≤ 257) : CgIn W (some ⟨g, 0, none⟩) m 257 (List.replicate m kCg) := by
  refine ⟨by simp, hm, by omega, .inr ⟨g, 0, rfl, h.lt.1, fun i c hc => ?_⟩, fun c hc => ?_⟩
  · rw [List.getElem?_replicate] at hc
    split at hc
    case isFalse => cases hc
    rename_i h1
    obtain rfl := Option.some.inj hc
    obtain ⟨e1, e2, e3, _⟩ := h.cell i (by omega)
    rw [if_pos (by omega)] at e1
    rw [Nat.zero_add]
    exact ⟨e1, e2, e3⟩
  · rw [List.eq_of_mem_replicate hc]
    exact ⟨⟨rfl, by simp [kCg], .inl rfl⟩, fun _ => rfl, by unfold maxLen kCg; decide⟩
theorem MkR.below {B g k : Nat} {W W' : World} (h : MkR B g k W) (hb : Below W.heap.size W W') : MkR B g k W' := by
  have hlt := h.lt.1
  obtain ⟨xs, h1, h2⟩ := h
  refine ⟨xs, ⟨h1.1, h1.2.imp id ?_⟩, h2⟩
  rintro ⟨g', cap, cur, hv, hB, hh, r⟩
  cases hv
  exact ⟨g, 257, cur, rfl, hB, (hb.block g hlt).trans hh, r⟩
theorem made_ownT {w0 : World} {B g n : Nat} (h : w0.ownsRow B 5 1 (.slice (some ⟨g, 0, none⟩) n n) n (madeCells #[Value.int IntKind.u8 0] n).toList) : Own w0 B (.slice (some ⟨g, 0, none⟩) n n) (List.replicate n 0) := by
  unfold Own
  rw [List.length_replicate, ← made_zero]
  exact h
theorem own_lt {w0 : World} {B g n c : Nat} {z : List Nat} (h : Own w0 B (.slice (some ⟨g, 0, none⟩) n c) z) : g < w0.heap.size := by
  rcases h.2 with ⟨h0, _⟩ | ⟨g', cap, cur, hv, hb, hh, -⟩
  · cases h0
  · cases hv
    exact (Array.getElem?_eq_some_iff.1 hh).1
/-- a change with a great value, and the world in which four of it lie in a row -/
def bigV (h : Nat) : Value := .slice (some ⟨h, 0, none⟩) 262144 262144
def bigW (w : World) (h : Nat) : World := (w.alloc (.cells #[.string ⟨#[107]⟩, .bool false, .slice (some ⟨h, 0, none⟩) 262144 262144] 51)).alloc (.cells #[.string ⟨#[107]⟩, .bool false, .slice (some ⟨h, 0, none⟩) 262144 262144, .string ⟨#[107]⟩, .bool false, .slice (some ⟨h, 0, none⟩) 262144 262144, .string ⟨#[107]⟩, .bool false, .slice (some ⟨h, 0, none⟩) 262144 262144, .string ⟨#[107]⟩, .bool false, .slice (some ⟨h, 0, none⟩) 262144 262144] 51)
theorem big_cg {w : World} {h : Nat} {z : List Nat} (hr : Rd w (some ⟨h, 0, none⟩) 262144 z) (hz : z.length = 262144) (hh : h < w.heap.size) :
    CgIn (bigW w h) (some ⟨w.heap.size + 1, 0, none⟩) 4 4 [⟨⟨#[107]⟩, false, some ⟨h, 0, none⟩, 262144, 262144, z⟩, ⟨⟨#[107]⟩, false, some ⟨h, 0, none⟩, 262144, 262144, z⟩, ⟨⟨#[107]⟩, false, some ⟨h, 0, none⟩, 262144, 262144, z⟩, ⟨⟨#[107]⟩, false, some ⟨h, 0, none⟩, 262144, 262144, z⟩] := by
  have hb : Below w.heap.size w (bigW w h) := ((Below.refl _ _).alloc (Nat.le_refl _) _).alloc (by simp) _
  have hrow := heap_new (w.alloc (.cells #[.string ⟨#[107]⟩, .bool false, .slice (some ⟨h, 0, none⟩) 262144 262144] 51)) (.cells #[.string ⟨#[107]⟩, .bool false, .slice (some ⟨h, 0, none⟩) 262144 262144, .string ⟨#[107]⟩, .bool false, .slice (some ⟨h, 0, none⟩) 262144 262144, .string ⟨#[107]⟩, .bool false, .slice (some ⟨h, 0, none⟩) 262144 262144, .string ⟨#[107]⟩, .bool false, .slice (some ⟨h, 0, none⟩) 262144 262144] 51)
  have hcell := fun i => cell_of_row (bigW w h) (w.heap.size + 1) i _ _ (0, 0) (show (bigW w h).heap[w.heap.size + 1]? = _ from by
    unfold bigW
    have e : (w.alloc (.cells #[.string ⟨#[107]⟩, .bool false, .slice (some ⟨h, 0, none⟩) 262144 262144] 51)).heap.size = w.heap.size + 1 := by simp
    rw [e] at hrow
    exact hrow)
  refine ⟨rfl, by omega, by omega, .inr ⟨_, 0, rfl, by unfold bigW; simp, fun i c hc => ?_⟩, fun c hc => ?_⟩
  · match i, hc with
    | 0, hc => cases hc; exact ⟨(hcell 0).trans rfl, (hcell 1).trans rfl, (hcell 2).trans rfl⟩
    | 1, hc => cases hc; exact ⟨(hcell 3).trans rfl, (hcell 4).trans rfl, (hcell 5).trans rfl⟩
    | 2, hc => cases hc; exact ⟨(hcell 6).trans rfl, (hcell 7).trans rfl, (hcell 8).trans rfl⟩
    | 3, hc => cases hc; exact ⟨(hcell 9).trans rfl, (hcell 10).trans rfl, (hcell 11).trans rfl⟩
  · have : c = ⟨⟨#[107]⟩, false, some ⟨h, 0, none⟩, 262144, 262144, z⟩ := by simpa using hc
    subst this
    exact ⟨hr.below hb, (fun e => by cases e), (show ByteArray.size ⟨#[107]⟩ ≤ maxLen from by unfold maxLen; decide)⟩
set_option maxRecDepth 100000 in
set_option maxHeartbeats 8000000 in
theorem tnil_c (s : ByteArray) (w : World) : Calls Try.prog 4 #[.string s] w fun e w' => e = .returned (.bool true) ∧ Below w.heap.size w w' := by
  obtain ⟨i0, hi, hz0, hz1, hz2⟩ := info_parts byteInfo
  obtain ⟨j0, hj, hy0, hy1, hy2⟩ := info_parts chgInfo
  have HG := Lib.hid (tget_nil s)
  go_enter Try.func4, Try.ntmps4
  go_wp2_with fail
  refine (HG.out _).mono ?_
  rintro e1 w1 ⟨rfl, rfl⟩
  clear HG
  go_wp2_with (at_make; refine wpList_make_full _ rfl _ _ 35 rfl w1.heap.size 51 j0 _ 3 Try.underlying35 hj hy0 hy1 .i64 .i64 _ _ 257 rfl rfl rfl rfl (by rw [hy2]; omega) (by unfold maxLen; omega) (Nat.le_refl _) ?_)
  intro w2 hown hg
  have hb2 : Below w1.heap.size w1 w2 := (Below.refl _ _).grown hg (Nat.le_refl _) (by simp)
  obtain ⟨g, hgd⟩ : ∃ g, g = w1.heap.size := ⟨_, rfl⟩
  have HM := Lib.hid (show MkR w1.heap.size g 0 w2 from ⟨_, by rw [hgd]; exact hown, mkX_zero⟩)
  have HB := Lib.hid hb2
  rw [← hgd]
  clear hown hg hb2 hgd
  go_wp2_with fail
  go_loopw [24] (fun i wr => ∃ k : Nat, k ≤ 257 ∧ i = .int .i64 k ∧ Hid (MkR w1.heap.size g k wr ∧ Below w1.heap.size w1 wr)) (fun i _ => 257 - (intOf i).toNat)
  case atStart => exact ⟨0, by omega, rfl, Lib.hid ⟨HM.out, HB.out⟩⟩
  case round =>
    clear HM HB
    obtain ⟨k, hk, rfl, HP⟩ := hrel
    by_cases hkl : k < 257
    · obtain ⟨hc, -, -, hfz⟩ := HP.out.1.cell k hkl
      have HN := Lib.hid (HP.out.1.step hkl)
      have HB := Lib.hid (HP.out.2.setCell (p := ⟨g, k * 3, none⟩) HP.out.1.lt.2 (.string ⟨#[107]⟩))
      go_wp2_with fail
      go_roundw
      case rel => exact ⟨k + 1, by omega, by go_num, Lib.hid ⟨HN.out, HB.out⟩⟩
      case measure => simp [intOf]; omega
    · obtain rfl : k = 257 := by omega
      have HM := Lib.hid HP.out.1
      have HB := Lib.hid HP.out.2
      have HGL := Lib.hid HP.out.1.lt
      have HE := Lib.hid (encode_c _ _ _ _ wr (HM.out.cg 257 (by omega)))
      rw [encT_over] at HE
      clear HP hk hkl
      go_wp2_with fail
      refine HE.out.mono ?_
      rintro e2 w2 ⟨v2, rfl, -, hb2⟩
      have HM2 := Lib.hid (HM.out.below hb2)
      have HB2 := Lib.hid (HB.out.trans (hb2.mono HB.out.size))
      have HE2 := Lib.hid (encode_c _ _ _ _ w2 (HM2.out.cg 256 (by omega)))
      have HF := Lib.hid encT_many
      clear hb2 HE HM HB
      obtain ⟨r3, hr3⟩ : ∃ r, r = encT (List.replicate 256 kCg) := ⟨_, rfl⟩
      rw [← hr3] at HE2 HF
      clear hr3
      go_wp2_with fail
      refine HE2.out.mono ?_
      rintro e3 w3 ⟨v3, rfl, -, hb3⟩
      rw [HF.out]
      have HB3 := Lib.hid (HB2.out.trans (hb3.mono HB2.out.size))
      clear hb3 HE2 HF HM2 HB2 HGL
      go_wp2_with (at_make; refine wpList_make_full _ rfl _ _ 41 rfl w3.heap.size 5 i0 (.int .u8 0) 1 Try.underlying41 hi hz0 hz1 .i64 .i64 _ _ 262144 rfl rfl rfl rfl (by rw [hz2]; omega) (by unfold maxLen; omega) (Nat.le_refl _) ?_)
      intro w4 hown0 hg0
      have hb4 : Below w3.heap.size w3 w4 := (Below.refl _ _).grown hg0 (Nat.le_refl _) (by simp)
      obtain ⟨h, hh⟩ : ∃ h, h = w3.heap.size := ⟨_, rfl⟩
      obtain ⟨z, hzl, hzb, hzo⟩ : ∃ z : List Nat, z.length = 262144 ∧ (∀ x ∈ z, x < 256) ∧ Own w4 w3.heap.size (.slice (some ⟨w3.heap.size, 0, none⟩) 262144 262144) z := ⟨_, List.length_replicate, fun x hx => by rw [List.eq_of_mem_replicate hx]; omega, made_ownT hown0⟩
      have HO4 := Lib.hid (own_rd hzo hzb)
      have HZL := Lib.hid hzl
      have HH := Lib.hid (own_lt hzo)
      have HB4 := Lib.hid (HB3.out.trans (hb4.mono HB3.out.size))
      rw [← hh] at HO4 ⊢
      rw [← hh] at HH
      clear hown0 hg0 hb4 HB3 hh hzl hzb hzo
      have HC := Lib.hid (big_cg (w := w4) HO4.out HZL.out HH.out)
      have HE5 := Lib.hid (encode_c _ _ _ _ _ HC.out)
      unfold bigW at HE5
      rw [encT_big _ rfl rfl rfl HZL.out] at HE5
      have HB5 := Lib.hid (show Below w1.heap.size w1 (bigW w4 h) from (HB4.out.alloc HB4.out.size _).alloc (by simp; have := HB4.out.size; omega) _)
      clear HO4 HC HZL HH HB4
      go_wp2_with fail
      refine HE5.out.mono ?_
      rintro e6 w6 ⟨v6, rfl, -, hb6⟩
      have HB6 := Lib.hid (HB5.out.trans (hb6.mono HB5.out.size))
      clear hb6 HE5 HB5
      go_wp2_with fail
      refine (awake11_c _).mono ?_
      rintro e7 w7 ⟨rfl, hb7⟩
      have HB7 := Lib.hid (HB6.out.trans (hb7.mono HB6.out.size))
      clear hb7 HB6
      go_wp2_with (first | (go_at_call 9; refine (tapply_nil _ _).mono ?_; rintro e8 w8 ⟨rfl, rfl⟩) | (go_at_call 19; refine (tfold_nil _).mono ?_; rintro e8 w8 ⟨rfl, rfl⟩) | (go_at_call 12; refine (tkeys_nil _ _ _ _).mono ?_; rintro e8 w8 ⟨rfl, rfl⟩) | (go_at_call 20; refine (tlen_nil _).mono ?_; rintro e8 w8 ⟨rfl, rfl⟩) | (go_at_call 21; refine (tsize_nil _).mono ?_; rintro e8 w8 ⟨rfl, rfl⟩))
      go_ret
      exact ⟨rfl, HB7.out⟩
end Go.Proofs.Ytjjkfbebaoikbaa
