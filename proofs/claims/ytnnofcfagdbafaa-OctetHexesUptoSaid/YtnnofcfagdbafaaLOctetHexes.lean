/-
  P1.4: Hex and Unhex are the document's, and one another's way back, for any bytes and any text, of at most 1048576 bytes each.
-/
import Derived.Test.YtnnofcfagdbafaaFrame
import Derived.JoinedCond
import Derived.Test.YtnnofcfagdbafaaBulk
import Derived.Test.YtnnofcfagdbafaaAwk
import Derived.Test.YtnnofcfagdbafaaSame
import Derived.Test.YtnnofcfagdbafaaHxr
import Derived.Test.YtnnofcfagdbafaaUnr
namespace Go.Proofs.Ytnnofcfagdbafaa.lOctetHexes
open Go.ChangeShapes Go.WideShapes Go.ChangeAt Go.RowKit
open Go.ChangeMaps (open_string shut_string)
set_option linter.unusedVariables false

theorem same_self (a1 a2 : Option Addr) (len1 cap1 len2 cap2 : Nat) (xs : List Nat) (w : World) (h1 : Rd w a1 len1 xs) (h2 : Rd w a2 len2 xs) (hm : len1 ≤ 9223372036854775807) :
    Calls Try.prog 19 #[.slice a1 len1 cap1, .slice a2 len2 cap2] w fun e w' => e = .returned (.bool true) ∧ Below w.heap.size w w' :=
  (same_c a1 a2 len1 cap1 len2 cap2 xs xs w h1 h2 hm).mono fun e w' ⟨h, n, hw⟩ => by
    subst hw
    exact ⟨by rw [h]; simp, below_drewN' _ _ _⟩
theorem chars_str (zs : List Nat) (hz : ∀ z ∈ zs, z < 256) : chars (str zs) = zs := by
  simp only [chars, str, List.map_map]
  apply List.ext_getElem
  · simp
  · intro i h1 h2
    have := hz _ (List.getElem_mem h2)
    simp
    omega
theorem str_chars (s : ByteArray) : str (chars s) = s := by
  obtain ⟨d⟩ := s
  simp only [chars, str, List.map_map]
  congr 1
  apply Array.ext
  · simp
  · intro i h1 h2
    simp
theorem hv_hexd (d : Nat) (h : d < 16) : Unm.hv (hexd d) = some d := by
  unfold hexd Unm.hv
  split
  · rw [if_pos (by omega)]; simp
  · rw [if_neg (by omega), if_pos (by omega)]; simp
theorem hexd_hv {c v : Nat} (h : Unm.hv c = some v) : hexd v = c := by
  unfold Unm.hv at h
  unfold hexd
  split at h
  · simp at h; split <;> omega
  · split at h
    · simp at h; split <;> omega
    · simp at h
theorem un_hex (zs : List Nat) (hz : ∀ z ∈ zs, z < 256) : Unm.un (hex zs) = some zs := by
  induction zs with
  | nil => rfl
  | cons z zs ih =>
    have h0 := hz z (by simp)
    have e : hex (z :: zs) = hexd (z / 16) :: hexd (z % 16) :: hex zs := by simp [hex]
    rw [e, Unm.un, hv_hexd _ (by omega), hv_hexd _ (by omega), ih (fun y hy => hz y (by simp [hy]))]
    simp
    omega
theorem hex_un (cs P : List Nat) (h : Unm.un cs = some P) : hex P = cs ∧ (∀ z ∈ P, z < 256) ∧ cs.length = 2 * P.length := by
  induction cs using Unm.un.induct generalizing P with
  | case1 => simp [Unm.un] at h; subst h; simp [hex]
  | case2 x => simp [Unm.un] at h
  | case3 x y r a b ha hb ih =>
    rw [Unm.un, ha, hb] at h
    simp at h
    obtain ⟨Q, hQ, rfl⟩ := h
    obtain ⟨i1, i2, i3⟩ := ih Q hQ
    have ha' := Unm.hv_lt ha
    have hb' := Unm.hv_lt hb
    refine ⟨?_, ?_, ?_⟩
    · have e : hex ((16 * a + b) :: Q) = hexd ((16 * a + b) / 16) :: hexd ((16 * a + b) % 16) :: hex Q := by simp [hex]
      rw [e, i1, show (16 * a + b) / 16 = a by omega, show (16 * a + b) % 16 = b by omega, hexd_hv ha, hexd_hv hb]
    · intro z hm
      simp at hm
      rcases hm with rfl | hm
      · omega
      · exact i2 z hm
    · simp; omega
  | case4 x y r hn =>
    rw [Unm.un] at h
    split at h
    · rename_i a b ha hb; exact absurd hb (hn a b ha)
    · simp at h
/-- what Unhex hands back, in parts -/
def UnF (B : Nat) (w : World) (P : List Nat) (x : Value) (en : Ending) (w' : World) : Prop :=
  ∃ a L cap, en = .returned (.tuple #[.slice a L cap, x]) ∧ P.length = L ∧ L ≤ cap ∧ cap ≤ 9223372036854775807 ∧ (a = none → cap = 0) ∧ Rd w' a L P ∧ Below B w w'
theorem unF_some {B : Nat} {w : World} {r : Option (List Nat)} {P : List Nat} (hr : r = some P) (hP : ∀ z ∈ P, z < 256) (en : Ending) (w' : World) (h : UnRet B w r en w') : UnF B w P (.int .i64 0) en w' := by
  subst hr
  obtain ⟨v, rfl, ho, hb⟩ := h
  obtain ⟨a, L, cap, rfl, h1, h2, h3, h4, h5, _⟩ := ho.form hP
  exact ⟨a, L, cap, rfl, h1, h2, h3, h4, h5, hb⟩
theorem unF_none {B : Nat} {w : World} {r : Option (List Nat)} (hr : r = none) (en : Ending) (w' : World) (h : UnRet B w r en w') : UnF B w [] (.int .i64 10) en w' := by
  subst hr
  obtain ⟨v, rfl, ho, hb⟩ := h
  obtain ⟨a, L, cap, rfl, h1, h2, h3, h4, h5, _⟩ := ho.form (zs := []) (by simp)
  exact ⟨a, L, cap, rfl, h1, h2, h3, h4, h5, hb⟩
theorem unFB_some {B : Nat} {w : World} {r : Option (List Nat)} {P : List Nat} (hr : r = some P) (hP : ∀ z ∈ P, z < 256) (en : Ending) (w' : World) (h : UnRetB B w r en w') : UnF B w P (.bool true) en w' := by
  subst hr
  obtain ⟨v, rfl, ho, hb⟩ := h
  obtain ⟨a, L, cap, rfl, h1, h2, h3, h4, h5, _⟩ := ho.form hP
  exact ⟨a, L, cap, rfl, h1, h2, h3, h4, h5, hb⟩
theorem unFB_none {B : Nat} {w : World} {r : Option (List Nat)} (hr : r = none) (en : Ending) (w' : World) (h : UnRetB B w r en w') : UnF B w [] (.bool false) en w' := by
  subst hr
  obtain ⟨v, rfl, ho, hb⟩ := h
  obtain ⟨a, L, cap, rfl, h1, h2, h3, h4, h5, _⟩ := ho.form (zs := []) (by simp)
  exact ⟨a, L, cap, rfl, h1, h2, h3, h4, h5, hb⟩
/-- what Unhex says of this text: P its bytes, E its error, O whether there are any -/
def UnIs (s : ByteArray) (P : List Nat) (E : Int) (O : Bool) : Prop :=
  (∀ W : World, Calls Try.prog 31 #[.string s] W (UnF W.heap.size W P (.int .i64 E))) ∧
  (∀ W : World, Calls Try.prog 32 #[.string s] W (UnF W.heap.size W P (.bool O))) ∧ (E = 0 → str (hex P) = s) ∧ (∀ z ∈ P, z < 256)
theorem unIs (s : ByteArray) (hs : s.size ≤ 1048576) : (∃ P, P.length ≤ 1048576 ∧ UnIs s P 0 true) ∨ UnIs s [] 10 false := by
  cases h : Unm.un (chars s) with
  | none =>
    right
    exact ⟨fun W => (unhex_c s W (by omega)).mono (unF_none h), fun W => (refUnhex_c s W (by omega)).mono (unFB_none h), fun e => by simp at e, by simp⟩
  | some P =>
    left
    obtain ⟨h1, h2, h3⟩ := hex_un _ _ h
    refine ⟨P, by rw [chars_len] at h3; omega, fun W => (unhex_c s W (by omega)).mono (unF_some h h2), fun W => (refUnhex_c s W (by omega)).mono (unFB_some h h2), fun _ => by rw [h1, str_chars], h2⟩

set_option maxRecDepth 100000 in
set_option maxHeartbeats 3200000 in
theorem walk (a0 : Option Addr) (len0 cap0 : Nat) (z0 : List Nat) (a1 : ByteArray) (w : World) (r0 : BytesIn w a0 len0 cap0 z0) (u0 : cap0 ≤ 1048576) (r1 : a1.size ≤ 1048576) :
    Calls Try.prog 9 #[.slice a0 len0 cap0, .string a1] w fun e w' => e = .returned (.bool true) ∧ Below w.heap.size w w' := by
  obtain ⟨hr, hnil0, hlc, hcap⟩ := r0
  have hz0 := hr.2.1
  have hl0 := hr.1
  have CH := Lib.hid (fun W (h : Rd W a0 len0 z0) => hex_c a0 len0 cap0 z0 W h hnil0 (by omega))
  have CR := Lib.hid (fun W (h : Rd W a0 len0 z0) => refHex_c a0 len0 cap0 z0 W h (by omega))
  have hsz : (str (hex z0)).size ≤ 140000000000000 := by
    have : (str (hex z0)).size = (hex z0).length := by simp [str, ByteArray.size]
    rw [this, hex_len]; omega
  have CU := Lib.hid (fun W => (unhex_c (str (hex z0)) W hsz).mono (unF_some (by rw [chars_str _ (hex_byte z0 hz0)]; exact un_hex z0 hz0) hz0))
  obtain ⟨S, hS⟩ : ∃ S, S = str (hex z0) := ⟨_, rfl⟩
  rw [← hS] at CH CR CU
  clear hsz hS
  rcases unIs a1 r1 with ⟨P, hPl, U1, U2, U3, U4⟩ | ⟨U1, U2, U3, U4⟩
  · have V1 := Lib.hid U1
    have V2 := Lib.hid U2
    have V3 := Lib.hid U3
    have V4 := Lib.hid U4
    clear U1 U2 U3 U4
    go_enter Try.func9, Try.ntmps9
    go_wp2_with fail
    refine (V1.out w).mono ?_
    rintro en w1 ⟨x1, L1, c1, rfl, hL1, hLc1, hcm1, hnc1, hrc1, hb1⟩
    go_wp2_with fail
    refine (V2.out w1).mono ?_
    rintro en w2 ⟨x2, L2, c2, rfl, hL2, hLc2, hcm2, hnc2, hrc2, hb2⟩
    have hbb := hb1.trans (hb2.mono hb1.size)
    have g1 := hrc1.below hb2
    have gr := hr.below hbb
    clear hrc1 hb1 hb2
    go_wp2_with fail
    refine (CH.out w2 gr).mono ?_
    rintro en w3 ⟨rfl, hb3⟩
    have g1' := g1.below hb3
    have g2 := hrc2.below hb3
    have hbc := hbb.trans (hb3.mono hbb.size)
    clear g1 hrc2 gr hb3 hbb
    go_wp2_with fail
    refine (CU.out w3).mono ?_
    rintro en w4 ⟨x4, L4, c4, rfl, hL4, hLc4, hcm4, hnc4, hrc4, hb4⟩
    have e1 := g1'.below hb4
    have e2 := g2.below hb4
    have hbd := hbc.trans (hb4.mono hbc.size)
    clear g1' g2 hb4 hbc
    go_wp2_with fail
    refine (awake_c w4).mono ?_
    rintro en w5 ⟨rfl, hb5⟩
    have f1 := e1.below hb5
    have f2 := e2.below hb5
    have f4 := hrc4.below hb5
    have hbe := hbd.trans (hb5.mono hbd.size)
    have fr := hr.below hbe
    clear e1 e2 hrc4 hb5 hbd
    go_wp2_with fail
    refine (CH.out w5 fr).mono ?_
    rintro en w6 ⟨rfl, hb6⟩
    have g1 := f1.below hb6
    have g2 := f2.below hb6
    have g4 := f4.below hb6
    have hbf := hbe.trans (hb6.mono hbe.size)
    have gr := hr.below hbf
    clear f1 f2 f4 fr hb6 hbe
    go_wp2_with fail
    refine (CR.out w6 gr).mono ?_
    rintro en w7 ⟨rfl, hb7⟩
    have f1 := g1.below hb7
    have f2 := g2.below hb7
    have f4 := g4.below hb7
    have hbg := hbf.trans (hb7.mono hbf.size)
    clear g1 g2 g4 gr hb7 hbf
    go_wp2_with fail
    refine (same_self x1 x2 L1 c1 L2 c2 P w7 f1 f2 (by omega)).mono ?_
    rintro en w8 ⟨rfl, hb8⟩
    have g1 := f1.below hb8
    have g4 := f4.below hb8
    have hbh := hbg.trans (hb8.mono hbg.size)
    have gr := hr.below hbh
    clear f1 f2 f4 hb8 hbg
    go_wp2_with fail
    refine (same_self x4 a0 L4 c4 len0 cap0 z0 w8 g4 gr (by omega)).mono ?_
    rintro en w9 ⟨rfl, hb9⟩
    have f1 := g1.below hb9
    have hbi := hbh.trans (hb9.mono hbh.size)
    clear g1 g4 gr hb9 hbh
    go_wp2_with fail
    refine (hex_c x1 L1 c1 P w9 f1 hnc1 (by omega)).mono ?_
    rintro en w10 ⟨rfl, hb10⟩
    have hfin := hbi.trans (hb10.mono hbi.size)
    rw [V3.out (by trivial)]
    clear hbi hb10 f1
    go_wp2_with fail
    go_ret
    exact ⟨rfl, hfin⟩
  · have V1 := Lib.hid U1
    have V2 := Lib.hid U2
    clear U1 U2 U3 U4
    go_enter Try.func9, Try.ntmps9
    go_wp2_with fail
    refine (V1.out w).mono ?_
    rintro en w1 ⟨x1, L1, c1, rfl, hL1, hLc1, hcm1, hnc1, hrc1, hb1⟩
    go_wp2_with fail
    refine (V2.out w1).mono ?_
    rintro en w2 ⟨x2, L2, c2, rfl, hL2, hLc2, hcm2, hnc2, hrc2, hb2⟩
    have hbb := hb1.trans (hb2.mono hb1.size)
    have g1 := hrc1.below hb2
    have gr := hr.below hbb
    clear hrc1 hb1 hb2
    go_wp2_with fail
    refine (CH.out w2 gr).mono ?_
    rintro en w3 ⟨rfl, hb3⟩
    have g1' := g1.below hb3
    have g2 := hrc2.below hb3
    have hbc := hbb.trans (hb3.mono hbb.size)
    clear g1 hrc2 gr hb3 hbb
    go_wp2_with fail
    refine (CU.out w3).mono ?_
    rintro en w4 ⟨x4, L4, c4, rfl, hL4, hLc4, hcm4, hnc4, hrc4, hb4⟩
    have e1 := g1'.below hb4
    have e2 := g2.below hb4
    have hbd := hbc.trans (hb4.mono hbc.size)
    clear g1' g2 hb4 hbc
    go_wp2_with fail
    refine (awake_c w4).mono ?_
    rintro en w5 ⟨rfl, hb5⟩
    have f1 := e1.below hb5
    have f2 := e2.below hb5
    have f4 := hrc4.below hb5
    have hbe := hbd.trans (hb5.mono hbd.size)
    have fr := hr.below hbe
    clear e1 e2 hrc4 hb5 hbd
    go_wp2_with fail
    refine (CH.out w5 fr).mono ?_
    rintro en w6 ⟨rfl, hb6⟩
    have g1 := f1.below hb6
    have g2 := f2.below hb6
    have g4 := f4.below hb6
    have hbf := hbe.trans (hb6.mono hbe.size)
    have gr := hr.below hbf
    clear f1 f2 f4 fr hb6 hbe
    go_wp2_with fail
    refine (CR.out w6 gr).mono ?_
    rintro en w7 ⟨rfl, hb7⟩
    have f1 := g1.below hb7
    have f2 := g2.below hb7
    have f4 := g4.below hb7
    have hbg := hbf.trans (hb7.mono hbf.size)
    clear g1 g2 g4 gr hb7 hbf
    go_wp2_with fail
    refine (same_self x1 x2 L1 c1 L2 c2 [] w7 f1 f2 (by omega)).mono ?_
    rintro en w8 ⟨rfl, hb8⟩
    have g4 := f4.below hb8
    have hbh := hbg.trans (hb8.mono hbg.size)
    have gr := hr.below hbh
    clear f1 f2 f4 hb8 hbg
    go_wp2_with fail
    refine (same_self x4 a0 L4 c4 len0 cap0 z0 w8 g4 gr (by omega)).mono ?_
    rintro en w9 ⟨rfl, hb9⟩
    have hfin := hbh.trans (hb9.mono hbh.size)
    clear g4 gr hb9 hbh
    go_wp2_with fail
    go_ret
    exact ⟨rfl, hfin⟩


set_option maxRecDepth 100000 in
theorem contract (H : Type) (enc : TypeId × Value → H) (W : World) (base : Nat) (args : Array Value) (ds gs : List (DataW H)) (before : List MemPlace)
    (hval0 : ∀ (j : Nat) t v, Try.f9.params[j]? = some t → args[j]? = some v → Value.okWide Try.prog W .any base t v)
    (hW : DataW.Whole enc Try.prog Try.f9.params.toList Rows.octetHexesSpec.vars false W args.toList ds gs before) (hk : Rows.uptoSmall H (ds ++ gs) = true) :
    Calls Try.prog 9 args W fun e W' => ∃ v, e = .returned v ∧ Rows.octetHexesSpec.post enc Try.prog Try.f9 false true false false W args v W' := by
  have hval : ∀ (j : Nat) t v, Try.f9.params[j]? = some t → args[j]? = some v → Value.okWide Try.prog W .any base t v := hval0
  have hW' := hW
  obtain ⟨p, q, hA0, hV, rfl, hfz, hnd⟩ := hW
  have hA : DataW.TrodAll enc Try.prog W 0 (fun _ => true) true Try.f9.params.toList args.toList ds p := hA0
  rw [Try.params9] at hA hval
  obtain ⟨v0, vs0, d0, ds0, p0, q0, hargs, rfl, rfl, h0, s0⟩ := trodAll_cons hA
  obtain ⟨v1, vs1, d1, ds1, p1, q1, rfl, rfl, rfl, h1, s1⟩ := trodAll_cons s0
  obtain ⟨rfl, rfl, rfl⟩ := trodAll_nil s1
  obtain rfl : args = #[v0, v1] := by cases args; simp_all
  obtain ⟨rfl, rfl⟩ := trodVars_none hV
  obtain ⟨a0, len0, cap0, rfl⟩ := okWide_slice Try.underlying27 (hval 0 27 v0 rfl rfl)
  have k0 := h0
  have lt0 : ∀ x ∈ p0, x.block < W.heap.size := by obtain ⟨m, hm⟩ := k0; exact DataW.trod_lt m _ _ _ hm
  obtain ⟨z0, r0, u0⟩ : ∃ zs, BytesIn W a0 len0 cap0 zs ∧ cap0 ≤ 1048576 := by
    obtain ⟨fuel, hf⟩ := h0
    rcases open_ints Try.underlying27 Try.underlying5 (by kernel_rfl) hf with ⟨hcs, _⟩ | ⟨x, l, c, zs, hcs, _, hl, hm, hz, hx, hcell, hwz⟩
    · simp [Value.cells] at hcs
      obtain ⟨rfl, rfl, rfl⟩ := hcs
      exact ⟨[], bytesIn_nil W, by omega⟩
    · simp [Value.cells] at hcs
      obtain ⟨rfl, rfl, rfl⟩ := hcs
      obtain ⟨hd, _⟩ := Prod.mk.inj hx
      simp only [if_true] at hz
      have hs := bulk_slice (elems := lits .u8 (zs.take len0)) (spare := lits .u8 (zs.drop len0)) hk (by rw [← hd]; simp)
      simp only [lits, List.length_map, List.length_take, List.length_drop] at hs
      exact ⟨_, bytesIn_some hl hz (by omega) hcell hwz, by omega⟩
  obtain ⟨a1, rfl, hd1, rfl, w1⟩ := open_string Try.underlying9 (hval 1 9 v1 rfl rfl) h1
  subst hd1
  have r1 : a1.size ≤ 1048576 := by
    have hs := bulk_string (bytes := a1.data.toList) hk (by simp)
    simpa using hs
  clear hA0 hval0
  refine (walk a0 len0 cap0 z0 a1 W r0 u0 r1).mono fun e W' ⟨he, bel⟩ => ?_
  subst he
  exact ⟨_, rfl, _, _, _, [], _, [], hW', trodAll_mk1 (shut_bool Try.underlying4 _), (trodAll_cons_mk (Below.trod laidOut (by kernel_rfl) (of_decide_eq_true (by kernel_rfl)) k0 bel lt0) (trodAll_cons_mk (shut_string Try.underlying9 w1) trodAll_mk0)), rfl, bel.frame _, fun h => by cases h⟩


set_option maxRecDepth 100000 in
theorem lifted (os : Os) (started : os.Started) (H : Type) (enc : TypeId × Value → H) (F : Stop.Interp) :
    ReturnsInHanded {} Try.checked os 9 .any ((Rows.OpenSpec.upto Rows.octetHexesSpec).pre6 enc Try.prog Try.f9 Rows.octetHexesUptoRow.domain false) (((Rows.OpenSpec.upto Rows.octetHexesSpec).at F).post enc Try.prog Try.f9 false true false false) := by
  refine returnsInHanded_of_cond (C := Try.checked) (s := Rows.OpenSpec.upto Rows.octetHexesSpec) (k := Rows.uptoSmall) rfl own started (by kernel_rfl) Try.func9
    (OpenSpec.witness (enc := enc) (C := Try.checked) (s := Rows.OpenSpec.upto Rows.octetHexesSpec) (k := Rows.uptoSmall) rfl false ⟨#[], #[.slice none 0 0, .string ByteArray.empty], []⟩ 8 (by kernel_rfl) (by kernel_rfl) (by kernel_rfl)
      (x := ([.nil, .lit (.string [])], [], [])) (by kernel_rfl) rfl (by kernel_rfl)) ?_
  intro W base args ds gs before hval hW _ hk _
  exact contract H enc W base args ds gs before hval hW hk

theorem over : Rows.octetHexesUptoRow.holds Try.pinned (Rows.OpenSpec.upto Rows.octetHexesSpec) :=
  OpenClaim.holds_of_cond 9 Try.f9 rfl rfl rfl rfl rfl rfl rfl ⟨rfl, rfl, rfl, rfl, rfl⟩ rfl rfl rfl rfl rfl (by kernel_rfl) Try.func9 (by kernel_rfl)
    (of_decide_eq_true (by kernel_rfl)) (by unfold Func.isWrapper; first | (rw [if_pos (by decide +kernel)]; kernel_rfl) | (rw [if_neg (by decide +kernel)]; exact ⟨rfl, rfl⟩))
    (fun os started H enc _ F => lifted os started H enc F)

/-- THE STATEMENT -/
theorem proved : Rows.OctetHexesUptoSaid := over
end Go.Proofs.Ytnnofcfagdbafaa.lOctetHexes
