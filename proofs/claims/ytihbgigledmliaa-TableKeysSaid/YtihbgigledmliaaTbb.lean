/-
  The table's Encode: changes as a record.
-/
import Derived.Test.YtihbgigledmliaaTba
namespace Go.Proofs.Ytihbgigledmliaa
open Go.RowKit
set_option linter.unusedVariables false
/-- a change, with its value's place -/
structure Cg where
  key : ByteArray
  gone : Bool
  va : Option Addr
  vn : Nat
  vc : Nat
  val : List Nat
def CgB (W : World) (c : Cg) : Prop := Rd W c.va c.vn c.val ∧ (c.va = none → c.vc = 0) ∧ c.key.size ≤ maxLen
theorem CgB.below {W W' : World} {c : Cg} (h : CgB W c) (hb : Below W.heap.size W W') : CgB W' c := ⟨h.1.below hb, h.2⟩
/-- a row of changes -/
def CgIn (W : World) (a : Option Addr) (len cap : Nat) (L : List Cg) : Prop :=
  L.length = len ∧ len ≤ cap ∧ cap ≤ 9223372036854775807 ∧ (len = 0 ∨ ∃ b off, a = some ⟨b, off, none⟩ ∧ b < W.heap.size ∧ ∀ (i : Nat) (c : Cg), L[i]? = some c → W.cell? ⟨b, off + i * 3, none⟩ = some (.string c.key) ∧ W.cell? ⟨b, off + i * 3 + 1, none⟩ = some (.bool c.gone) ∧ W.cell? ⟨b, off + i * 3 + 2, none⟩ = some (.slice c.va c.vn c.vc)) ∧ ∀ c ∈ L, CgB W c
theorem CgIn.below {W W' : World} {a : Option Addr} {len cap : Nat} {L : List Cg} (h : CgIn W a len cap L) (hb : Below W.heap.size W W') : CgIn W' a len cap L := by
  obtain ⟨h1, h3, h4, h5, h6⟩ := h
  refine ⟨h1, h3, h4, h5.imp id ?_, fun s hs => (h6 s hs).below hb⟩
  rintro ⟨b, off, ha, hlt, hc⟩
  refine ⟨b, off, ha, Nat.lt_of_lt_of_le hlt hb.size, fun i s hs => ?_⟩
  obtain ⟨e1, e2, e3⟩ := hc i s hs
  exact ⟨(hb.cell (p := ⟨b, off + i * 3, none⟩) hlt).trans e1, (hb.cell (p := ⟨b, off + i * 3 + 1, none⟩) hlt).trans e2, (hb.cell (p := ⟨b, off + i * 3 + 2, none⟩) hlt).trans e3⟩
/-- what is written behind some bytes -/
def encG : List Nat → List Cg → List Nat × Int
  | acc, [] => (acc, 0)
  | acc, c :: l => if soundC c.key c.vn = false then ([], 1) else if 1048568 < (acc ++ chgB c.key c.gone c.val).length then ([], 8) else encG (acc ++ chgB c.key c.gone c.val) l
def encT (L : List Cg) : List Nat × Int := if 256 < L.length then ([], 8) else encG (Cntm.cnt L.length) L
theorem chgB_byte (key : ByteArray) (gone : Bool) (val : List Nat) (hv : ∀ z ∈ val, z < 256) : ∀ z ∈ chgB key gone val, z < 256 := fun z hz => by
  unfold chgB at hz
  cases gone with
  | true =>
    simp only [if_true, List.mem_cons, List.mem_append] at hz
    rcases hz with rfl | hz | hz
    · omega
    · exact Cntm.cnt_byte _ z hz
    · exact strL_byte key z hz
  | false =>
    simp only [Bool.false_eq_true, if_false, List.mem_cons, List.mem_append, List.cons_append] at hz
    rcases hz with rfl | (hz | hz) | hz | hz
    · omega
    · exact Cntm.cnt_byte _ z hz
    · exact strL_byte key z hz
    · exact Cntm.cnt_byte _ z hz
    · exact hv z hz
theorem chgB_len (key : ByteArray) (gone : Bool) (val : List Nat) (hk : key.size ≤ 400) (hv : val.length ≤ 300000) : (chgB key gone val).length ≤ 400000 := by
  unfold chgB
  have h1 := Cntm.cnt_len10 key.size (by omega)
  have h2 := Cntm.cnt_len10 val.length (by omega)
  have h3 := strL_len key
  cases gone
  · simp only [Bool.false_eq_true, if_false, List.cons_append, List.length_cons, List.length_append]; omega
  · simp only [if_true, List.length_cons, List.length_append]; omega
theorem sound_bounds {key : ByteArray} {vn : Nat} (h : soundC key vn = true) : 1 ≤ key.size ∧ key.size ≤ 320 ∧ vn ≤ 262144 := by
  unfold soundC at h
  rw [Bool.and_eq_true, Bool.and_eq_true] at h
  exact ⟨of_decide_eq_true h.1.1, of_decide_eq_true h.1.2, of_decide_eq_true h.2⟩
theorem run_tchg_idx (W : World) (b o len cap i : Nat) (hi : i < len) : (Instr.indexAt 35 (.slice (some ⟨b, o, none⟩) len cap) (.int .i64 (i : Int))).run Try.prog W = .ok (.pointer (some ⟨b, o + i * 3, none⟩)) W := by
  rw [run_indexAt_slice W 35 ⟨b, o, none⟩ len cap .i64 (i : Int) (by kernel_rfl)]
  have h1 : (0 : Int) ≤ (i : Int) ∧ (i : Int) < (len : Int) := by omega
  rw [if_pos h1, show (Go.sizeOf (Try.prog.elem 35)).run Try.prog W = .ok 3 W from by kernel_rfl]
  simp [Result.andThen, Addr.add]
/-- what Encode leaves -/
def EncR (w : World) (r : List Nat × Int) (e : Ending) (w' : World) : Prop := ∃ v, e = .returned (.tuple #[v, .int .i64 r.2]) ∧ Own w' w.heap.size v r.1 ∧ Below w.heap.size w w'
set_option maxRecDepth 100000 in
set_option maxHeartbeats 8000000 in
theorem encode_c (a : Option Addr) (len cap : Nat) (L : List Cg) (w : World) (h : CgIn w a len cap L) :
    Calls Try.prog 22 #[.slice a len cap] w (EncR w (encT L)) := by
  obtain ⟨hl, hlc, hcm, hh, hs⟩ := h
  unfold encT
  rw [hl]
  have HL := Lib.hid hl
  have HH := Lib.hid hh
  have HS := Lib.hid hs
  clear hl hh hs
  by_cases h256 : 256 < len
  · rw [if_pos h256]
    have i1 : (256 : Int) < (len : Int) := by omega
    go_enter Try.func22, Try.ntmps22
    go_wp2_with fail
    go_ret2
    exact ⟨_, rfl, Own.nil _ _, Below.refl _ _⟩
  · rw [if_neg h256]
    have i1 : ¬ (256 : Int) < (len : Int) := by omega
    have hcv : IntKind.u64.wrap (len : Int) = (len : Int) := by
      show (len : Int) % 18446744073709551616 = _
      omega
    have HC := Lib.hid (count_c len w (by omega))
    have HC10 := Lib.hid (Cntm.cnt_len10 len (by omega))
    obtain ⟨r, hr⟩ : ∃ r, r = encG (Cntm.cnt len) L := ⟨_, rfl⟩
    rw [← hr]
    have HR := Lib.hid hr
    clear hr
    go_enter Try.func22, Try.ntmps22
    go_wp2_with fail
    refine HC.out.mono ?_
    rintro e1 w1 ⟨v1, rfl, ho1, hb1⟩
    have HO1 := Lib.hid ho1
    have HB1 := Lib.hid hb1
    clear ho1 hb1 HC
    go_wp2_with fail
    go_loopw [4, 16] (fun v i wr => ∃ (k : Nat) (acc : List Nat), k ≤ len ∧ i = .int .i64 k ∧ Hid (Own wr w.heap.size v acc ∧ Below w.heap.size w wr ∧ encG acc (L.drop k) = r ∧ acc.length ≤ 1048568 ∧ ∀ z ∈ acc, z < 256)) (fun _ i _ => len - (intOf i).toNat)
    case atStart => exact ⟨0, _, Nat.zero_le _, rfl, Lib.hid ⟨HO1.out, HB1.out, by rw [List.drop_zero]; exact HR.out.symm, by have := HC10.out; omega, Cntm.cnt_byte _⟩⟩
    case round =>
      clear HO1 HB1 HR
      obtain ⟨k, acc, hk, rfl, HP⟩ := hrel
      by_cases hkl : k < len
      · obtain ⟨c, hc⟩ : ∃ c, L[k]? = some c := ⟨_, List.getElem?_eq_getElem (by rw [HL.out]; exact hkl)⟩
        obtain ⟨b, off, rfl, hblt, hcells⟩ := HH.out.resolve_left (by omega)
        obtain ⟨d0, d1, d2⟩ := hcells k c hc
        have HDR := Lib.hid (show L.drop k = c :: L.drop (k + 1) from by
          obtain ⟨hx, rfl⟩ := List.getElem?_eq_some_iff.1 hc
          exact List.drop_eq_getElem_cons hx)
        have HCB := Lib.hid (HS.out c (List.mem_of_getElem? hc))
        obtain ⟨key, gone, va, vn, vc, val⟩ := c
        simp only at d0 d1 d2
        have hbw := HP.out.2.1
        have c0 := (hbw.cell (p := ⟨b, off + k * 3, none⟩) hblt).trans d0
        have c1 := (hbw.cell (p := ⟨b, off + k * 3 + 1, none⟩) hblt).trans d1
        have c2 := (hbw.cell (p := ⟨b, off + k * 3 + 2, none⟩) hblt).trans d2
        have hix := fun W => run_tchg_idx W b off len cap k hkl
        obtain ⟨w5, hw5⟩ : ∃ w5, w5 = wr.alloc (.cells #[.string key, .bool gone, .slice va vn vc] 65) := ⟨_, rfl⟩
        have hb5 : Below wr.heap.size wr w5 := by rw [hw5]; exact (Below.refl _ _).alloc (Nat.le_refl _) _
        obtain ⟨X, hX⟩ : ∃ X, X = wr.heap.size := ⟨_, rfl⟩
        have hbx : w5.heap[X]? = some (.cells #[.string key, .bool gone, .slice va vn vc] 65 (0, 0)) := by rw [hw5, hX]; exact heap_alloc_new wr _
        have hxl : X < w5.heap.size := (Array.getElem?_eq_some_iff.1 hbx).1
        have y0 : w5.cell? ⟨X, 0, none⟩ = some (.string key) := (cell_of_row w5 X 0 _ _ _ hbx).trans rfl
        have y1 : w5.cell? ⟨X, 1, none⟩ = some (.bool gone) := (cell_of_row w5 X 1 _ _ _ hbx).trans rfl
        have y2 : w5.cell? ⟨X, 2, none⟩ = some (.slice va vn vc) := (cell_of_row w5 X 2 _ _ _ hbx).trans rfl
        have HXL := Lib.hid hxl
        have HB5 := Lib.hid (show Below w.heap.size w w5 from hbw.trans (hb5.mono hbw.size))
        have HO5 := Lib.hid (HP.out.1.keep hb5)
        have HSD := Lib.hid (sound_c key gone va vn vc w5 HCB.out.2.2)
        clear hbx hxl hbw hb5 d0 d1 d2 hcells hc
        go_upto_region 7 with fail
        rw [← hX]
        rw [← hw5]
        clear hX hw5 c0 c1 c2 hix hblt
        go_wp2_with fail
        refine HSD.out.mono ?_
        rintro e6 w6 ⟨rfl, hb6⟩
        replace y0 : w6.cell? ⟨X, 0, none⟩ = some (.string key) := (hb6.cell (p := ⟨X, 0, none⟩) HXL.out).trans y0
        replace y1 : w6.cell? ⟨X, 1, none⟩ = some (.bool gone) := (hb6.cell (p := ⟨X, 1, none⟩) HXL.out).trans y1
        replace y2 : w6.cell? ⟨X, 2, none⟩ = some (.slice va vn vc) := (hb6.cell (p := ⟨X, 2, none⟩) HXL.out).trans y2
        have HB6 := Lib.hid (HB5.out.trans (hb6.mono HB5.out.size))
        have HO6 := Lib.hid (HO5.out.keep hb6)
        clear hb6 HSD HB5 HO5
        cases hsd : soundC key vn with
        | false =>
          have HE := Lib.hid (show r = ([], 1) from by
            rw [← HP.out.2.2.1, HDR.out]
            show (if soundC key vn = false then _ else _) = _
            rw [if_pos hsd])
          go_wp2_with fail
          go_ret2
          rw [HE.out]
          exact ⟨_, rfl, Own.nil _ _, HB6.out⟩
        | true =>
          obtain ⟨hk1, hk2, hv1⟩ := sound_bounds hsd
          have hvl : val.length = vn := HCB.out.1.1
          have HEN := Lib.hid (encoded_c key gone va vn vc val w6 (by omega) (HCB.out.1.below HB6.out) HCB.out.2.1 (by omega))
          have HCY := Lib.hid (chgB_byte key gone val HCB.out.1.2.1)
          have HCL := Lib.hid (chgB_len key gone val (by omega) (by omega))
          have HNX := Lib.hid (show (if 1048568 < (acc ++ chgB key gone val).length then ([], 8) else encG (acc ++ chgB key gone val) (L.drop (k + 1))) = r from by
            rw [← HP.out.2.2.1, HDR.out]
            show _ = (if soundC key vn = false then _ else _)
            exact (if_neg (by rw [hsd]; decide)).symm)
          obtain ⟨CB, hCB⟩ : ∃ CB, CB = chgB key gone val := ⟨_, rfl⟩
          rw [← hCB] at HEN HCY HCL HNX
          clear hk1 hk2 hv1 hvl hCB hsd
          go_wp2_with fail
          refine HEN.out.mono ?_
          rintro e7 w7 ⟨v7, rfl, ho7, hb7⟩
          obtain ⟨a7, n7, c7, rfl, hl7, hlc7, hcm7, hnil7, hr7, -⟩ := ho7.form HCY.out
          have HO7 := Lib.hid (HO6.out.keep hb7)
          have HB7 := Lib.hid (HB6.out.trans (hb7.mono HB6.out.size))
          have HR7 := Lib.hid hr7
          have HN7 := Lib.hid hnil7
          have hsz7 := HB7.out.size
          have hlen7 : acc.length + CB.length ≤ 140737488355328 := by have := HP.out.2.2.2.1; have := HCL.out; omega
          clear ho7 hb7 hl7 hlc7 hcm7 hnil7 hr7 HEN y0 y1 y2
          go_wp2_with (at_builtin; refine wpList_cat rfl _ _ rfl w.heap.size _ acc CB rfl HO7.out hsz7 a7 n7 c7 rfl HR7.out HN7.out hlen7 ?_; intro v8 w8 ho8 hb8; obtain ⟨a8, n8, c8, rfl, hl8, hlc8, hcm8, hnil8, hr8, ho8⟩ := ho8.form (fun z hz => (List.mem_append.1 hz).elim (HP.out.2.2.2.2 z) (HCY.out z)); have HO8 := Lib.hid ho8; have HB8 := Lib.hid (HB7.out.trans hb8); clear hlc8 hcm8 hnil8 hr8 ho8 hb8)
          · have HE := Lib.hid (show r = ([], 8) from by rw [← HNX.out, if_pos (by omega)])
            go_ret2
            rw [HE.out]
            exact ⟨_, rfl, Own.nil _ _, HB8.out⟩
          · have HE := Lib.hid (show encG (acc ++ CB) (L.drop (k + 1)) = r from by rw [← HNX.out, if_neg (by omega)])
            have HP2 := Lib.hid (show Own w8 w.heap.size (.slice a8 n8 c8) (acc ++ CB) ∧ Below w.heap.size w w8 ∧ encG (acc ++ CB) (L.drop (k + 1)) = r ∧ (acc ++ CB).length ≤ 1048568 ∧ ∀ z ∈ acc ++ CB, z < 256 from ⟨HO8.out, HB8.out, HE.out, by omega, fun z hz => (List.mem_append.1 hz).elim (HP.out.2.2.2.2 z) (HCY.out z)⟩)
            go_roundw
            case rel => exact ⟨k + 1, _, by omega, by go_num, HP2⟩
            case measure => simp [intOf]; omega
      · have hkr : k = len := by omega
        have HE := Lib.hid (show r = (acc, 0) from by rw [← HP.out.2.2.1, List.drop_of_length_le (by rw [HL.out]; omega)]; rfl)
        go_wp2_with fail
        go_ret2
        rw [HE.out]
        exact ⟨_, rfl, HP.out.1, HP.out.2.1⟩
end Go.Proofs.Ytihbgigledmliaa
