/-
  What hallmarklaw11.awake answers: true, by the table's contracts.
-/
import Derived.Test.YtjjkfbebaoikbaaTbk
import Derived.Lib.SlBytesConst
namespace Go.Proofs.Ytjjkfbebaoikbaa
open Go.RowKit Go.Maps
set_option linter.unusedVariables false
def nmt : ByteArray := ⟨#[116]⟩
def A1000 : Ad := ⟨1000, -1, false, [], [], []⟩
theorem load1000 : (Ad.load A1000 nmt).2 = 0 := by rfl
theorem recs1000 : recsA A1000 nmt = [] := by rfl
def ka : ByteArray := ⟨#[97]⟩
def kb : ByteArray := ⟨#[98]⟩
theorem Tbl.wide {X : Nat → Prop} {B d jb tb m n N sz : Nat} {nm : ByteArray} {A : Ad} {f : ByteArray → Option (List Nat)} {dn : Bool} {w w' : World} (h : Tbl X B d jb tb m n N nm sz A f dn w) (hb : Below w.heap.size w w') : Tbl (fun j => X j ∨ (w.heap.size ≤ j ∧ j < w'.heap.size)) B d jb tb m n N nm sz A f dn w' := by
  obtain ⟨D, hD⟩ := h.tm
  have hjl := h.jn.dx.lt jb h.jn.xj
  exact ⟨⟨h.jn.dx.belowY hb (fun j hj => hj.imp id fun e => e.1) (fun j hj => hj.elim (fun e => Nat.lt_of_lt_of_le (h.jn.dx.lt j e) hb.size) fun e => e.2), .inl h.jn.xj, h.jn.bj, (hb.block jb hjl).trans h.jn.row⟩, ⟨D, (hD.below hb).moreV fun k hk => ⟨.inl hk.1, hk.2⟩⟩, (hb.block tb h.mt.2.2.2.2).trans h.row, .inl h.tx, h.tj, .inl h.mx, h.bt⟩
def awL (e1 : Nat) : List Cg := [⟨ka, false, some ⟨e1, 0, none⟩, 1, 1, [49]⟩, ⟨kb, false, none, 0, 0, []⟩]
theorem chg_a : chgB ka false [49] = [1, 1, 97, 1, 49] := by
  unfold chgB ka
  simp only [Bool.false_eq_true, if_false]
  rw [show Cntm.cnt (ByteArray.size ⟨#[97]⟩) = [1] from Cntm.cnt_lo (by decide), show Cntm.cnt [49].length = [1] from Cntm.cnt_lo (by decide)]
  rfl
theorem chg_b : chgB kb false [] = [1, 1, 98, 0] := by
  unfold chgB kb
  simp only [Bool.false_eq_true, if_false]
  rw [show Cntm.cnt (ByteArray.size ⟨#[98]⟩) = [1] from Cntm.cnt_lo (by decide), show Cntm.cnt ([] : List Nat).length = [0] from Cntm.cnt_lo (by decide)]
  rfl
theorem awL_enc (e1 : Nat) : encT (awL e1) = ([2, 1, 1, 97, 1, 49, 1, 1, 98, 0], 0) := by
  unfold encT
  rw [show (awL e1).length = 2 from rfl, if_neg (by omega), show Cntm.cnt 2 = [2] from Cntm.cnt_lo (by decide)]
  unfold awL
  simp only [encG, chg_a, chg_b]
  rw [if_neg (by decide), if_neg (by simp), if_neg (by decide), if_neg (by simp)]
  rfl
theorem awL_keep : (Ad.keep (Ad.load A1000 nmt).1 nmt [2, 1, 1, 97, 1, 49, 1, 1, 98, 0]).2 = 0 := by kernel_rfl
def awF : ByteArray → Option (List Nat) := fun t => if t = kb then some [] else if t = ka then some [49] else none
theorem awF_some (s : ByteArray) : (awF s).isSome = true ↔ s = ka ∨ s = kb := by
  unfold awF
  by_cases h1 : s = kb
  · simp [h1]
  · by_cases h2 : s = ka
    · simp [h2, show ¬ ka = kb from by decide]
    · simp [h1, h2]
theorem len_one {l : List ByteArray} (hn : l.Nodup) {x : ByteArray} (hm : ∀ s, s ∈ l ↔ s = x) : l.length = 1 :=
  ((List.perm_ext_iff_of_nodup (l₂ := [x]) hn (by simp)).2 fun s => (hm s).trans (by simp)).length_eq
theorem len_two {l : List ByteArray} (hn : l.Nodup) {x y : ByteArray} (hne : x ≠ y) (hm : ∀ s, s ∈ l ↔ s = x ∨ s = y) : l.length = 2 :=
  ((List.perm_ext_iff_of_nodup (l₂ := [x, y]) hn (by simp [hne])).2 fun s => (hm s).trans (by simp)).length_eq
theorem kyP_ab (s : ByteArray) : (awF s).isSome = true ∧ kyP ⟨#[]⟩ ka s = true ↔ s = kb := by
  rw [awF_some]
  constructor
  · rintro ⟨rfl | rfl, h⟩
    · unfold kyP gtB at h
      simp at h
    · rfl
  · rintro rfl
    refine ⟨.inr rfl, ?_⟩
    unfold kyP gtB
    rw [bytesLess_eq, Lib.toList_data, Lib.toList_data]
    decide
set_option maxRecDepth 100000 in
set_option maxHeartbeats 8000000 in
theorem awake11_c (w : World) : Calls Try.prog 7 #[] w fun e w' => e = .returned (.bool true) ∧ Below w.heap.size w w' := by
  have HD := Lib.hid (dnew_c 1000 w (by omega) (by omega))
  go_enter Try.func7, Try.ntmps7
  go_wp2_with fail
  refine HD.out.mono ?_
  rintro e1 w1 ⟨rfl, hk1, hb1⟩
  obtain ⟨d, hd⟩ : ∃ d, d = w.heap.size := ⟨_, rfl⟩
  have hdx1 : Dx (fun _ => False) w.heap.size d 0 A1000 w1 := ⟨⟨newS 1000, by rw [hd]; exact hk1, anewS 1000 (by omega) (by omega), fun j hj => hj.elim⟩, fun j hj => hj.elim⟩
  rw [← hd]
  have HOP := Lib.hid (topen_none hdx1 (by omega) nmt (by decide) (by decide) (fun z hz => by cases hz) recs1000)
  have HB1 := Lib.hid hb1
  clear hk1 hb1 hdx1 HD hd
  go_wp2_with fail
  refine HOP.out.mono ?_
  rintro e2 w2 ⟨Y, y1, y2, y3, y4, y5, hres⟩
  obtain ⟨-, jb, tb, m, rfl, htb, y6, y7, y8⟩ := hres.resolve_right (fun h => h.1 load1000)
  have HB2 := Lib.hid (HB1.out.trans y3)
  obtain ⟨e1, he1⟩ : ∃ e1, e1 = w2.heap.size := ⟨_, rfl⟩
  obtain ⟨w3, hw3⟩ : ∃ w3, w3 = w2.alloc (.cells #[.int .u8 49] 5 (1, 2)) := ⟨_, rfl⟩
  have hz3 : w3.heap.size = e1 + 1 := by rw [hw3, he1]; simp
  obtain ⟨w4, hw4⟩ : ∃ w4, w4 = w3.alloc (.cells #[.string ka, .bool false, .slice (some ⟨e1, 0, none⟩) 1 1, .string kb, .bool false, .slice none 0 0] 51) := ⟨_, rfl⟩
  have hb3 : Below w2.heap.size w2 w3 := by rw [hw3]; exact (Below.refl _ _).alloc (Nat.le_refl _) _
  have hb4 : Below w3.heap.size w3 w4 := by rw [hw4]; exact (Below.refl _ _).alloc (Nat.le_refl _) _
  have hz4 : w4.heap.size = e1 + 2 := by rw [hw4]; simp [hz3]
  have hr3 : w3.heap[e1]? = some (.cells #[.int .u8 49] 5 (1, 2)) := by rw [hw3, he1]; exact heap_alloc_new w2 _
  have hr4 : w4.heap[e1 + 1]? = some (.cells #[.string ka, .bool false, .slice (some ⟨e1, 0, none⟩) 1 1, .string kb, .bool false, .slice none 0 0] 51 (0, 0)) := by rw [hw4, ← hz3]; exact heap_alloc_new w3 _
  have hb24 : Below w2.heap.size w2 w4 := hb3.trans (hb4.mono hb3.size)
  have hcc : ∀ i, w4.cell? ⟨e1 + 1, i, none⟩ = (#[.string ka, .bool false, .slice (some ⟨e1, 0, none⟩) 1 1, .string kb, .bool false, .slice none 0 0] : Array Value)[i]? := fun i => cell_of_row w4 (e1 + 1) i _ _ _ hr4
  have hrd : Rd w4 (some ⟨e1, 0, none⟩) 1 [49] := by
    refine ⟨rfl, by simp, .inr ⟨e1, 0, rfl, by omega, fun i hi => ?_⟩⟩
    obtain rfl : i = 0 := by omega
    exact ((hb4.cell (p := ⟨e1, 0, none⟩) (show e1 < w3.heap.size from by omega)).trans ((cell_of_row w3 e1 0 _ _ _ hr3).trans rfl))
  have hcg : CgIn w4 (some ⟨e1 + 1, 0, none⟩) 2 2 (awL e1) := by
    refine ⟨rfl, Nat.le_refl _, by omega, .inr ⟨e1 + 1, 0, rfl, by omega, fun i c hc => ?_⟩, fun c hc => ?_⟩
    · match i, hc with
      | 0, hc => cases hc; exact ⟨hcc 0, hcc 1, hcc 2⟩
      | 1, hc => cases hc; exact ⟨hcc 3, hcc 4, hcc 5⟩
    · unfold awL at hc
      simp only [List.mem_cons, List.not_mem_nil, or_false] at hc
      rcases hc with rfl | rfl
      · exact ⟨hrd, (fun e => by cases e), (show ka.size ≤ maxLen from by unfold maxLen; decide)⟩
      · exact ⟨⟨rfl, by simp, .inl rfl⟩, (fun _ => rfl), (show kb.size ≤ maxLen from by unfold maxLen; decide)⟩
  have hjl := htb.jn.dx.lt jb htb.jn.xj
  have htl := htb.mt.2.2.2.2
  have hcx : CgX (fun j => Y j ∨ (w2.heap.size ≤ j ∧ j < w4.heap.size)) w.heap.size jb tb (some ⟨e1 + 1, 0, none⟩) 2 (awL e1) := by
    refine ⟨fun b o s e _ => ?_, fun c hc b o s e hn => ?_⟩
    · cases e
      exact .inr ⟨.inr ⟨by omega, by omega⟩, by omega, by omega⟩
    · unfold awL at hc
      simp only [List.mem_cons, List.not_mem_nil, or_false] at hc
      rcases hc with rfl | rfl
      · cases e
        exact .inr ⟨.inr ⟨by omega, by omega⟩, by omega, by omega⟩
      · cases e
  have HAP := Lib.hid (tapply_c (htb.wide hb24) (by omega) (by omega) (by decide) (by rw [show usedA A1000 nmt = 0 from rfl]; omega) _ _ _ _ hcg hcx)
  have hE : (taE (Ad.load A1000 nmt).1 false nmt (awL e1)).2 = 0 := by
    unfold taE
    rw [awL_enc]
    exact awL_keep
  have hF : taF (Ad.load A1000 nmt).1 false nmt (awL e1) (fun _ => none) = awF := by
    unfold taF
    rw [hE, if_pos rfl]
    rfl
  rw [hF] at HAP
  have HE := Lib.hid hE
  have HB4 := Lib.hid (HB2.out.trans (hb24.mono HB2.out.size))
  clear y1 y2 y3 y4 y5 y6 y7 y8 hres htb hb3 hb4 hr3 hr4 hb24 hcc hrd hcg hcx hjl htl hE hF HOP HB1 HB2 hz4
  have hcv : (convert 41 41 (.slice (some ⟨w2.heap.size, 0, none⟩) 1 1)).run Try.prog (w2.alloc (.cells #[.int .u8 49] 5)) = .ok (.slice (some ⟨w2.heap.size, 0, none⟩) 1 1) (w2.alloc (.cells #[.int .u8 49] 5 (1, 2))) := Lib.run_convert_bytes_const (P := Try.prog) w2 41 5 #[.int .u8 49] 1 1 Try.underlying41 Try.underlying5
  go_wp2_with fail
  rw [← he1, ← hw3]
  rw [← hz3] at HAP
  rw [show (w3.alloc (.cells #[.string ⟨#[97]⟩, .bool false, .slice (some ⟨e1, 0, none⟩) 1 1, .string ⟨#[98]⟩, .bool false, .slice none 0 0] 51)) = w4 from hw4.symm, ← hz3]
  clear he1 hw3 hw4 hz3 hcv
  refine HAP.out.mono ?_
  rintro e5 w5 ⟨Z, sz', rfl, z1, z2, htb5, z4, z5, z6⟩
  rw [HE.out]
  obtain ⟨D5, hD5⟩ := htb5.tm
  have HD5 := Lib.hid hD5
  have HR5 := Lib.hid htb5.row
  have HB5 := Lib.hid (HB4.out.trans z5)
  have hfa : awF ka = some [49] := by decide
  have hgt := tget_c hD5 htb5.row ka (by unfold maxLen; decide) (by rw [hfa]; decide)
  rw [hfa] at hgt
  simp only [Option.isSome_some, Option.getD_some] at hgt
  have HGT := Lib.hid hgt
  clear hgt z1 z2 htb5 z4 z5 z6 hD5 HAP HE
  go_wp2_with fail
  refine HGT.out.mono ?_
  rintro e6 w6 ⟨v6, rfl, ho6, hb6⟩
  obtain ⟨a6, n6, c6, rfl, -, -, -, -, hr6, -⟩ := ho6.form (by simp)
  have hst := run_str (cap := c6) hr6
  rw [show str [49] = ⟨#[49]⟩ from rfl] at hst
  have HD6 := Lib.hid (HD5.out.below hb6)
  have HR6 := Lib.hid (show TRow w6 tb _ m _ from (hb6.block tb (Array.getElem?_eq_some_iff.1 HR5.out).1).trans HR5.out)
  have HB6 := Lib.hid (HB5.out.trans (hb6.mono HB5.out.size))
  obtain ⟨ll, l1, l2, l3⟩ := HD6.out.ks
  have hl2 := len_two l1 (x := ka) (y := kb) (by decide) fun s => (l2 s).trans (awF_some s)
  have HKY := Lib.hid (tkeys_c HD6.out HR6.out ⟨#[]⟩ ka 9 (by omega) (fun s hs => by rcases (awF_some s).1 hs with rfl | rfl <;> decide))
  clear ho6 hb6 HGT HD5 HR5 HB5 l1 l2 l3 hl2
  go_wp2_with fail
  refine HKY.out.mono ?_
  rintro e7 w7 ⟨cs, a7, c7, k1, k2, k3, rfl, k5, k6⟩
  have hcs := len_one k1 (x := kb) fun s => (k2 s).trans (kyP_ab s)
  rw [hcs]
  have HLN := Lib.hid (tlen_c (HD6.out.below k6) (show TRow w7 tb _ m _ from (k6.block tb (Array.getElem?_eq_some_iff.1 HR6.out).1).trans HR6.out))
  have HB7 := Lib.hid (HB6.out.trans (k6.mono HB6.out.size))
  clear k1 k2 k3 k5 k6 hcs HKY hst
  go_wp2_with fail
  refine HLN.out.mono ?_
  rintro e8 w8 ⟨⟨l, l1, l2, rfl⟩, rfl⟩
  rw [len_two l1 (x := ka) (y := kb) (by decide) fun s => (l2 s).trans (awF_some s)]
  clear l1 l2 HLN
  go_wp2_with fail
  go_ret
  exact ⟨rfl, HB7.out⟩
end Go.Proofs.Ytjjkfbebaoikbaa
