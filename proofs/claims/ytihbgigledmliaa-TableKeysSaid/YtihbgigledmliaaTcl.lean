/-
  The law TableKeys.
-/
import Derived.Test.YtihbgigledmliaaTcp
import Derived.Laws.OwnMore
namespace Go.Proofs.Ytihbgigledmliaa
open Go.RowKit
set_option linter.unusedVariables false
def A20 : Ad := ⟨1048576, -1, false, [], [], []⟩
theorem load20 : (Ad.load A20 nmt).2 = 0 := by rfl
theorem recs20 : recsA A20 nmt = [] := by rfl
theorem exec_sidxT {b len cap i : Nat} (hi : i < len) {A : Act} {x y : Operand} (hx : A.eval x = .slice (some ⟨b, 0, none⟩) len cap) (hy : A.eval y = .int .i64 (i : Int)) (op : Oper) (ho : op.op = .indexAddr 38 x y) (W : World) :
    (execOp A.eval op).run Try.prog W = .ok (.value (.pointer (some ⟨b, i, none⟩))) W := by
  unfold execOp
  simp only [ho, hx, hy]
  rw [Sem.run_bind, run_sidxT W b 0 len cap i hi, Nat.zero_add]
  rfl
theorem Own.rowT {w : World} {B gb L cap : Nat} {Y : List Nat} (h : Own w B (.slice (some ⟨gb, 0, none⟩) L cap) Y) (hl : Y.length = L) : w.ownsRow B 5 1 (.slice (some ⟨gb, 0, none⟩) L cap) L (cellsOf Y) := by
  subst hl; exact h
theorem Own.cellqT {w : World} {B gb L cap : Nat} {Y : List Nat} (h : Own w B (.slice (some ⟨gb, 0, none⟩) L cap) Y) (hl : Y.length = L) (k : Nat) (hk : k < L) : w.cell? ⟨gb, k, none⟩ = some (.int .u8 ((Y.getD k 0 : Nat) : Int)) := by
  rw [(h.rowT hl).cellAt k (by omega)]
  exact cellsOf_get Y k (by omega)
theorem Own.setqT {w : World} {B gb L cap : Nat} {Y : List Nat} (h : Own w B (.slice (some ⟨gb, 0, none⟩) L cap) Y) (hl : Y.length = L) (k x : Nat) : Own (w.setCell ⟨gb, k, none⟩ (.int .u8 (x : Int))) B (.slice (some ⟨gb, 0, none⟩) L cap) (Y.set k x) := by
  have := ((h.rowT hl).stored k (.int .u8 (x : Int))).1
  unfold Own
  rw [List.length_set, hl, show cellsOf (Y.set k x) = (cellsOf Y).set k (.int .u8 (x : Int)) by simp [cellsOf, List.map_set]]
  exact this
theorem u8_xor255T (y : Nat) (hy : y < 256) : bits .xor .u8 (y : Int) 255 = ((y ^^^ 255 : Nat) : Int) := u8_xor_nat y 255 hy (by omega)
theorem set_byteT (L : List Nat) (k x : Nat) (h : ∀ z ∈ L, z < 256) (hx : x < 256) : ∀ z ∈ L.set k x, z < 256 := fun z hz => by
  rcases List.mem_or_eq_of_mem_set hz with h1 | rfl
  · exact h z h1
  · exact hx
/-- the box of the two words -/
def WdX (X : Nat) (k0 k1 : ByteArray) (W : World) : Prop := W.heap[X]? = some (.cells #[.string k0, .string k1] 23 (0, 0))
theorem WdX.step {X : Nat} {k0 k1 : ByteArray} {W W' : World} (h : WdX X k0 k1 W) (hb : Below W.heap.size W W') : WdX X k0 k1 W' := (hb.block X (Array.getElem?_eq_some_iff.1 h).1).trans h
set_option maxRecDepth 100000 in
set_option maxHeartbeats 8000000 in
theorem tkl_c (a : Option Addr) (len cap : Nat) (L : List Cg) (w : World) (h : CgIn w a len cap L) (k0 k1 : ByteArray) (hk0 : k0.size ≤ maxLen) (hk1 : k1.size ≤ maxLen) (most : Int) :
    Calls Try.prog 3 #[.slice a len cap, .agg #[.string k0, .string k1], .int .i64 most] w fun e w' => e = .returned (.bool true) ∧ Below w.heap.size w w' := by
  have HL := Lib.hid h
  have HK0 := Lib.hid hk0
  have HK1 := Lib.hid hk1
  clear h hk0 hk1
  obtain ⟨X, hX⟩ : ∃ X, X = w.heap.size := ⟨_, rfl⟩
  obtain ⟨w0, hw0⟩ : ∃ w0, w0 = w.alloc (.cells #[.string k0, .string k1] 23) := ⟨_, rfl⟩
  have hb0 : Below w.heap.size w w0 := by rw [hw0]; exact (Below.refl _ _).alloc (Nat.le_refl _) _
  have HX := Lib.hid (show w0.heap[X]? = some (.cells #[.string k0, .string k1] 23 (0, 0)) from by rw [hw0, hX]; exact heap_alloc_new w _)
  have HB0 := Lib.hid hb0
  have HD := Lib.hid (dnew_c 1048576 w0 (by omega) (by omega))
  clear hb0
  go_enter Try.func3, Try.ntmps3
  go_wp2_with fail
  rw [← hX, ← hw0]
  clear hX hw0
  refine HD.out.mono ?_
  rintro e1 w1 ⟨rfl, hk1, hb1⟩
  obtain ⟨d, hd⟩ : ∃ d, d = w0.heap.size := ⟨_, rfl⟩
  have hdx1 : Dx (fun _ => False) w0.heap.size d 0 A20 w1 := ⟨⟨newS 1048576, by rw [hd]; exact hk1, anewS 1048576 (by omega) (by omega), fun j hj => hj.elim⟩, fun j hj => hj.elim⟩
  rw [← hd]
  have HOP := Lib.hid (topen_none hdx1 (by omega) nmt (by decide) (by decide) (fun z hz => by cases hz) recs20)
  have HB1 := Lib.hid hb1
  clear hk1 hb1 hdx1 HD hd
  go_wp2_with fail
  refine HOP.out.mono ?_
  rintro e2 w2 ⟨Y, y1, y2, y3, y4, y5, hres⟩
  obtain ⟨-, jb, tb, m, rfl, htb, y6, y7, y8⟩ := hres.resolve_right (fun h => h.1 load20)
  have HB2 := Lib.hid (HB1.out.trans y3)
  have HTB2 := Lib.hid htb
  clear y1 y2 y3 y4 y5 y6 y7 y8 hres htb HOP HB1
  go_wp2_with fail
  refine (awake11_c w2).mono ?_
  rintro e3 w3 ⟨rfl, hb3⟩
  have HB3 := Lib.hid (HB2.out.trans (hb3.mono HB2.out.size))
  have HL3 := Lib.hid ((HL.out.below HB0.out).below HB3.out)
  have HB23 := Lib.hid hb3
  clear hb3
  go_wp2_with fail
  refine (tsmall_c a len cap L w3 HL3.out).mono ?_
  rintro e4 w4 ⟨rfl, hb4⟩
  have HB4 := Lib.hid (HB3.out.trans (hb4.mono HB3.out.size))
  have HL4 := Lib.hid (HL3.out.below hb4)
  have HB34 := Lib.hid hb4
  clear hb4
  cases hsm : smallG L with
  | false =>
    go_wp2_with fail
    refine (awake11_c w4).mono ?_
    rintro e5 w5 ⟨rfl, hb5⟩
    have HB5 := Lib.hid (HB4.out.trans (hb5.mono HB4.out.size))
    clear hb5
    go_wp2_with fail
    go_ret
    exact ⟨rfl, HB0.out.trans (HB5.out.mono HB0.out.size)⟩
  | true =>
    have hsl : L.length ≤ 40 ∧ ∀ c ∈ L, c.key.size ≤ 400 ∧ c.vn ≤ 500 := by
      unfold smallG at hsm
      simp only [Bool.and_eq_true, decide_eq_true_eq, List.all_eq_true] at hsm
      exact ⟨hsm.1, fun c hc => hsm.2 c hc⟩
    have HSL := Lib.hid hsl
    have hlen : len ≤ 40 := by rw [← HL4.out.1]; exact hsl.1
    clear hsl hsm
    have HTO := Lib.hid (to_c a len cap L w4 HL4.out (by omega) fun c hc => Nat.le_trans (HSL.out.2 c hc).2 (by omega))
    go_wp2_with fail
    refine HTO.out.mono ?_
    rintro e5 w5 ⟨v5, rfl, hts⟩
    have hll := HL4.out.1
    rw [← hll] at hts
    obtain ⟨M, a5, c5, rfl, m1, m2, m3, m4, m5⟩ := hts.cgIn
    have hb5 := hts.below
    have hb25 : Below w2.heap.size w2 w5 := HB23.out.trans ((HB34.out.trans (hb5.mono HB34.out.size)).mono HB23.out.size)
    have h24 : w2.heap.size ≤ w4.heap.size := Nat.le_trans HB23.out.size HB34.out.size
    have hjl := HTB2.out.jn.dx.lt jb HTB2.out.jn.xj
    have htl := HTB2.out.mt.2.2.2.2
    have hcx : CgX (fun j => Y j ∨ (w2.heap.size ≤ j ∧ j < w5.heap.size)) w0.heap.size jb tb a5 L.length M := ⟨fun b o s e _ => by
      obtain ⟨q1, q2⟩ := m4 b o s e
      exact .inr ⟨.inr ⟨by omega, q2⟩, by omega, by omega⟩, fun c hc b o s e _ => by
      obtain ⟨q1, q2⟩ := m5 c hc b o s e
      exact .inr ⟨.inr ⟨by omega, q2⟩, by omega, by omega⟩⟩
    have HAP := Lib.hid (tapply_c (HTB2.out.wide hb25) (by omega) (by omega) (by decide) (by rw [show usedA A20 nmt = 0 from rfl]; omega) a5 L.length c5 M m3 hcx)
    have HM := Lib.hid m1
    have HML := Lib.hid m2
    have HL5 := Lib.hid (HL4.out.below hb5)
    have HB5 := Lib.hid (HB4.out.trans (hb5.mono HB4.out.size))
    obtain ⟨rE, hrE⟩ : ∃ r, r = taE (Ad.load A20 nmt).1 false nmt M := ⟨_, rfl⟩
    obtain ⟨rF, hrF⟩ : ∃ r, r = taF (Ad.load A20 nmt).1 false nmt M (fun _ => none) := ⟨_, rfl⟩
    have HRF := Lib.hid hrF
    have HRE := Lib.hid hrE
    rw [← hrE, ← hrF] at HAP
    clear hrE hrF hcx hjl htl hb25 h24 m1 m2 m3 m4 m5 hts hb5 HTO hll HTB2 HB23 HB34 HL3 HL4 HB3 HB4
    go_wp2_with fail
    refine HAP.out.mono ?_
    rintro e6 w6 ⟨Z, sz', rfl, z1, z2, htb6, z4, z5, z6⟩
    obtain ⟨D, hD⟩ := htb6.tm
    have HTM := Lib.hid hD
    have HTR := Lib.hid htb6.row
    have HB6 := Lib.hid (HB5.out.trans z5)
    have HL6 := Lib.hid ((HL.out.below HB0.out).below HB6.out)
    clear z1 z2 htb6 z4 z5 z6 hD HAP HB5 HL5
    by_cases hE : rE.2 = 0
    · have HF := Lib.hid (show rF = applyL (fun _ => none) L from by
        rw [HRF.out]
        unfold taF
        rw [← HRE.out, if_pos hE]
        exact applyL_cgE _ HM.out)
      have HSO := Lib.hid (show ∀ c ∈ M, soundC c.key c.vn = true from encT_sound (by
        have h1 := hE
        rw [HRE.out] at h1
        unfold taE at h1
        by_cases h2 : (encT M).2 = 0
        · exact h2
        · rw [if_neg (by decide), if_pos h2] at h1
          exact absurd h1 h2))
      have HKY := Lib.hid (show ∀ s, (rF s).isSome = true → s.size ≤ 400 ∧ kyP ⟨#[]⟩ ⟨#[]⟩ s = true from fun s hs => keyed HSO.out s (by rw [← applyL_cgE _ HM.out.symm, ← HF.out]; exact hs))
      have HVV := Lib.hid (show ∀ s, ((rF s).getD []).length ≤ 500 ∧ ∀ z ∈ (rF s).getD [], z < 256 from fun s => by
        cases hz : rF s with
        | none => exact ⟨Nat.zero_le _, fun z hz => by cases hz⟩
        | some z =>
          rw [HF.out] at hz
          rcases applyL_keys hz with h1 | ⟨c, hc, h1, h2⟩
          · cases h1
          · have h3 := (HSL.out.2 c hc).2
            have h4 := (HL6.out.2.2.2.2 c hc).1
            have h5 := h4.1
            have h6 := h4.2.1
            subst h2
            exact ⟨by rw [Option.getD_some]; omega, by rw [Option.getD_some]; exact h6⟩)
      have HDO := Lib.hid (do_c (N := fun _ => False) (cap := 0) (RF.nil _ w6 none) (fun k hk => hk.elim) a len cap L HL6.out (by omega) (by omega) fun c hc => Nat.le_trans (HSL.out.2 c hc).2 (by omega))
      rw [hE]
      clear hE HRE HRF
      go_wp2_with fail
      refine HDO.out.mono ?_
      rintro e7 w7 ⟨va, vn, vc, rfl, hrf, hb7⟩
      obtain ⟨s1, s2⟩ := doL_apply L (l := []) (f := fun _ => none) List.Pairwise.nil fun s => rfl
      obtain ⟨M0, hM0⟩ : ∃ M0, M0 = doL [] (L.map cgE) := ⟨_, rfl⟩
      have HM0 := Lib.hid (show M0.length ≤ 40 from by
        have h1 := doL_len (L.map cgE) []
        rw [List.length_map] at h1
        have h2 := HSL.out.1
        rw [hM0]
        simp at h1
        omega)
      rw [← hM0] at s1 s2 hrf
      have HS1 := Lib.hid s1
      have HS2 := Lib.hid (show ∀ s, lookF M0 s = rF s from fun s => by rw [s2, HF.out])
      have HRM := Lib.hid hrf
      have HTM7 := Lib.hid (HTM.out.below hb7)
      have HTR7 := Lib.hid (show TRow w7 tb _ m _ from (hb7.block tb (Array.getElem?_eq_some_iff.1 HTR.out).1).trans HTR.out)
      have HB7 := Lib.hid (HB6.out.trans (hb7.mono HB6.out.size))
      have HFEW := Lib.hid (show ∀ l : List ByteArray, l.Nodup → (∀ s ∈ l, (rF s).isSome = true) → l.length ≤ 40 from fun l hn hk => Nat.le_trans (keys_few (L := L) hn fun s hs => by rw [← HF.out]; exact hk s hs) HSL.out.1)
      clear s1 s2 hM0 hrf hb7 HDO HTM HTR HB6 HL6 HSO HF HM HML
      obtain ⟨w8, hw8⟩ : ∃ W, W = World.drew w7 := ⟨_, rfl⟩
      have hb8 : Below w7.heap.size w7 w8 := by rw [hw8]; exact below_drewN' _ w7 1
      have HB8 := Lib.hid (HB7.out.trans (hb8.mono HB7.out.size))
      have HS := Lib.hid (show WdX X k0 k1 w8 from WdX.step (WdX.step HX.out HB7.out) hb8)
      have HTM8 := Lib.hid (HTM7.out.below hb8)
      have HTR8 := Lib.hid (show TRow w8 tb _ m _ from (hb8.block tb (Array.getElem?_eq_some_iff.1 HTR7.out).1).trans HTR7.out)
      have HRM8 := Lib.hid (HRM.out.below hb8)
      have HMS := Lib.hid (show Maps.size D ≤ 100000 from by
        obtain ⟨l0, g1, g2, g3⟩ := HTM7.out.ks
        have := HFEW.out l0 g1 fun s hs => (g2 s).1 hs
        omega)
      have HKT := Lib.hid (tkeys_c HTM8.out HTR8.out k0 k1 most HMS.out fun s hs => (HKY.out s hs).1)
      have HPK := Lib.hid (fun W (hW : Below w8.heap.size w8 W) => pkeys_c (cap := vc) (HRM8.out.below hW) k0 k1 most (by have := HM0.out; have := HRM8.out.ln; omega) (fun p hp => by
        have h1 := lookF_of_mem HS1.out hp
        rw [HS2.out] at h1
        exact Nat.le_trans (HKY.out p.1 (by rw [h1]; rfl)).1 (by unfold maxLen; omega)) HK0.out)
      have HL0 := Lib.hid (fun W (hW : WdX X k0 k1 W) => run_cell_s W ⟨X, 0, none⟩ _ ((cell_of_row W X 0 _ _ _ hW).trans rfl))
      have HL1 := Lib.hid (fun W (hW : WdX X k0 k1 W) => run_cell_s W ⟨X, 1, none⟩ _ ((cell_of_row W X 1 _ _ _ hW).trans rfl))
      clear hb8 HTM7 HTR7 HRM HB7
      go_wp2_with fail
      refine anyH_begin (S := WdX X k0 k1) (by kernel_rfl) ?_
      rw [← hw8]
      clear hw8
      refine anyH_pureG 0 (d := 48) (op := .move (.tmp 9)) (gd := none) (.pointer (some ⟨tb, 0, none⟩)) (by rfl) (fun o ho => wanted_plain ho _) (by kernel_rfl) (by kernel_rfl) (by kernel_rfl) (fun _ _ _ h => h) (fun o ho W hW => by unfold execOp; simp only [ho]; go_simp) HS.out ?_
      simp only [Act.put, List.setIfInBounds_toArray, List.set_cons_zero, List.set_cons_succ]
      refine anyH_pureG 1 (d := 49) (op := .indexAddr 23 (.tmp 4) (.const (.int .i64 0))) (gd := none) (.pointer (some ⟨X, 0, none⟩)) (by rfl) (fun o ho => wanted_plain ho _) (by kernel_rfl) (by kernel_rfl) (by kernel_rfl) (fun _ _ _ h => h) (fun o ho W hW => by unfold execOp; simp only [ho]; go_simp) HS.out ?_
      simp only [Act.put, List.setIfInBounds_toArray, List.set_cons_zero, List.set_cons_succ]
      refine anyH_loadG 2 (d := 50) (ty := 9) (x := (.tmp 49)) (gd := none) (p := .pointer (some ⟨X, 0, none⟩)) (.string k0) (by rfl) (fun o ho => wanted_plain ho _) (by kernel_rfl) (by kernel_rfl) (by kernel_rfl) (fun _ _ _ h => h) (by rfl) HL0.out HS.out ?_
      simp only [Act.put, List.setIfInBounds_toArray, List.set_cons_zero, List.set_cons_succ]
      refine anyH_pureG 3 (d := 51) (op := .indexAddr 23 (.tmp 4) (.const (.int .i64 1))) (gd := none) (.pointer (some ⟨X, 1, none⟩)) (by rfl) (fun o ho => wanted_plain ho _) (by kernel_rfl) (by kernel_rfl) (by kernel_rfl) (fun _ _ _ h => h) (fun o ho W hW => by unfold execOp; simp only [ho]; go_simp) HS.out ?_
      simp only [Act.put, List.setIfInBounds_toArray, List.set_cons_zero, List.set_cons_succ]
      refine anyH_loadG 4 (d := 52) (ty := 9) (x := (.tmp 51)) (gd := none) (p := .pointer (some ⟨X, 1, none⟩)) (.string k1) (by rfl) (fun o ho => wanted_plain ho _) (by kernel_rfl) (by kernel_rfl) (by kernel_rfl) (fun _ _ _ h => h) (by rfl) HL1.out HS.out ?_
      simp only [Act.put, List.setIfInBounds_toArray, List.set_cons_zero, List.set_cons_succ]
      refine anyH_pureG 5 (d := 53) (op := .move (.tmp 2)) (gd := none) (.int .i64 most) (by rfl) (fun o ho => wanted_plain ho _) (by kernel_rfl) (by kernel_rfl) (by kernel_rfl) (fun _ _ _ h => h) (fun o ho W hW => by unfold execOp; simp only [ho]; go_simp) HS.out ?_
      simp only [Act.put, List.setIfInBounds_toArray, List.set_cons_zero, List.set_cons_succ]
      refine anyH_pureG 7 (d := 55) (op := .move (.tmp 11)) (gd := none) (.slice va vn vc) (by rfl) (fun o ho => wanted_plain ho _) (by kernel_rfl) (by kernel_rfl) (by kernel_rfl) (fun _ _ _ h => h) (fun o ho W hW => by unfold execOp; simp only [ho]; go_simp) HS.out ?_
      simp only [Act.put, List.setIfInBounds_toArray, List.set_cons_zero, List.set_cons_succ]
      refine anyH_pureG 8 (d := 56) (op := .indexAddr 23 (.tmp 4) (.const (.int .i64 0))) (gd := none) (.pointer (some ⟨X, 0, none⟩)) (by rfl) (fun o ho => wanted_plain ho _) (by kernel_rfl) (by kernel_rfl) (by kernel_rfl) (fun _ _ _ h => h) (fun o ho W hW => by unfold execOp; simp only [ho]; go_simp) HS.out ?_
      simp only [Act.put, List.setIfInBounds_toArray, List.set_cons_zero, List.set_cons_succ]
      refine anyH_loadG 9 (d := 57) (ty := 9) (x := (.tmp 56)) (gd := none) (p := .pointer (some ⟨X, 0, none⟩)) (.string k0) (by rfl) (fun o ho => wanted_plain ho _) (by kernel_rfl) (by kernel_rfl) (by kernel_rfl) (fun _ _ _ h => h) (by rfl) HL0.out HS.out ?_
      simp only [Act.put, List.setIfInBounds_toArray, List.set_cons_zero, List.set_cons_succ]
      refine anyH_pureG 10 (d := 58) (op := .indexAddr 23 (.tmp 4) (.const (.int .i64 1))) (gd := none) (.pointer (some ⟨X, 1, none⟩)) (by rfl) (fun o ho => wanted_plain ho _) (by kernel_rfl) (by kernel_rfl) (by kernel_rfl) (fun _ _ _ h => h) (fun o ho W hW => by unfold execOp; simp only [ho]; go_simp) HS.out ?_
      simp only [Act.put, List.setIfInBounds_toArray, List.set_cons_zero, List.set_cons_succ]
      refine anyH_loadG 11 (d := 59) (ty := 9) (x := (.tmp 58)) (gd := none) (p := .pointer (some ⟨X, 1, none⟩)) (.string k1) (by rfl) (fun o ho => wanted_plain ho _) (by kernel_rfl) (by kernel_rfl) (by kernel_rfl) (fun _ _ _ h => h) (by rfl) HL1.out HS.out ?_
      simp only [Act.put, List.setIfInBounds_toArray, List.set_cons_zero, List.set_cons_succ]
      refine anyH_pureG 12 (d := 60) (op := .move (.tmp 2)) (gd := none) (.int .i64 most) (by rfl) (fun o ho => wanted_plain ho _) (by kernel_rfl) (by kernel_rfl) (by kernel_rfl) (fun _ _ _ h => h) (fun o ho W hW => by unfold execOp; simp only [ho]; go_simp) HS.out ?_
      simp only [Act.put, List.setIfInBounds_toArray, List.set_cons_zero, List.set_cons_succ]
      refine anyH_callG 6 (d := some 54) (f := 11) (xs := #[(.tmp 48), (.tmp 50), (.tmp 52), (.tmp 53)]) (ts := #[28, 9, 9, 3]) (gd := none) (vs := #[.pointer (some ⟨tb, 0, none⟩), .string k0, .string k1, .int .i64 most]) (by kernel_rfl) (by rfl) (fun o ho => wanted_plain ho _) (by go_simp) (by go_simp) (HKT.out) ?_
      rintro e9 w9 ⟨cs, xa, xc, hnd, hmem, hsrt, rfl, hown, hb9⟩
      have HCS := Lib.hid (show cs = keysP M0 k0 k1 from keys_same HS1.out HS2.out hnd hmem hsrt)
      obtain ⟨q, hq⟩ : ∃ q, q = (min (max most 0) (cs.length : Nat)).toNat := ⟨_, rfl⟩
      rw [← hq]
      have HQ := Lib.hid hq
      have HOX := Lib.hid hown
      have HB89 := Lib.hid hb9
      have HS := Lib.hid (HS.out.step hb9)
      have HPK := Lib.hid (HPK.out w9 hb9)
      clear hnd hmem hsrt hq hown hb9 HKT
      refine ⟨_, rfl, HS.out, fun _ => ?_⟩
      simp only [Act.put, List.setIfInBounds_toArray, List.set_cons_zero, List.set_cons_succ]
      refine anyH_callG 13 (d := some 61) (f := 12) (xs := #[(.tmp 55), (.tmp 57), (.tmp 59), (.tmp 60)]) (ts := #[33, 9, 9, 3]) (gd := none) (vs := #[.slice va vn vc, .string k0, .string k1, .int .i64 most]) (by kernel_rfl) (by rfl) (fun o ho => wanted_plain ho _) (by go_simp) (by go_simp) (HPK.out) ?_
      rintro e10 w10 ⟨v10, rfl, hoy, hb10⟩
      have hly : ((keysP M0 k0 k1).take most.toNat).length = q := by
        rw [List.length_take, HQ.out, ← HCS.out]
        omega
      obtain ⟨ya, yc, rfl⟩ : ∃ ya yc, v10 = .slice ya q yc := by
        rcases hoy.2 with ⟨g1, g2⟩ | ⟨g, c, cur, g1, _⟩
        · exact ⟨_, _, by rw [← hly, g2]; exact g1⟩
        · exact ⟨_, _, by rw [← hly]; exact g1⟩
      have HOY := Lib.hid hoy
      have HB10 := Lib.hid hb10
      have HLY := Lib.hid hly
      have HS := Lib.hid (HS.out.step hb10)
      clear hoy hb10 hly HPK
      refine ⟨_, rfl, HS.out, fun _ => ?_⟩
      simp only [Act.put, List.setIfInBounds_toArray, List.set_cons_zero, List.set_cons_succ]
      refine anyH_pureG 14 (d := 12) (op := .assign (.tmp 54)) (gd := none) (.slice xa q xc) (by rfl) (fun o ho => wanted_plain ho _) (by kernel_rfl) (by kernel_rfl) (by kernel_rfl) (fun _ _ _ h => h) (fun o ho W hW => by unfold execOp; simp only [ho]; go_simp) HS.out ?_
      simp only [Act.put, List.setIfInBounds_toArray, List.set_cons_zero, List.set_cons_succ]
      refine anyH_pureG 15 (d := 13) (op := .assign (.tmp 61)) (gd := none) (.slice ya q yc) (by rfl) (fun o ho => wanted_plain ho _) (by kernel_rfl) (by kernel_rfl) (by kernel_rfl) (fun _ _ _ h => h) (fun o ho W hW => by unfold execOp; simp only [ho]; go_simp) HS.out ?_
      simp only [Act.put, List.setIfInBounds_toArray, List.set_cons_zero, List.set_cons_succ]
      refine wpAnyH_done (by kernel_rfl) ?_ _
      have HXX := Lib.hid HS.out
      have HB810 := Lib.hid (HB89.out.trans (HB10.out.mono HB89.out.size))
      have hq40 : q ≤ 40 := by
        have h1 := keysP_len M0 k0 k1
        rw [← HCS.out] at h1
        have h2 := HQ.out
        have h3 := HM0.out
        omega
      clear HS HL0 HL1 HMS
      go_wp2_with fail
      go_loopw [69] (fun i wr => ∃ k : Nat, k ≤ q ∧ i = .int .i64 k ∧ Hid (Below w10.heap.size w10 wr)) (fun i _ => q - (intOf i).toNat)
      case atStart => exact ⟨0, Nat.zero_le _, rfl, Lib.hid (Below.refl _ _)⟩
      case round =>
        obtain ⟨k, hk, rfl, HBL⟩ := hrel
        obtain ⟨w11, rfl⟩ : ∃ w11, w11 = wr := ⟨wr, rfl⟩
        by_cases hkq : k < q
        · have hkc : k < cs.length := by have := HQ.out; omega
          obtain ⟨s, hs⟩ : ∃ s, cs[k]? = some s := ⟨_, List.getElem?_eq_getElem hkc⟩
          have hs2 : ((keysP M0 k0 k1).take most.toNat)[k]? = some s := by
            rw [List.getElem?_take, if_pos (by have := HLY.out; rw [List.length_take] at this; omega), ← HCS.out]
            exact hs
          obtain ⟨gx, rfl, g1, g2⟩ := OwnS.cellT HOX.out rfl hs
          obtain ⟨gy, rfl, g3, g4⟩ := OwnS.cellT HOY.out HLY.out.symm hs2
          obtain ⟨w12, hw12⟩ : ∃ W, W = World.drew w11 := ⟨_, rfl⟩
          have hb12 : Below w11.heap.size w11 w12 := by rw [hw12]; exact below_drewN' _ w11 1
          have HBX := Lib.hid (HBL.out.trans (hb12.mono HBL.out.size))
          have HS := Lib.hid (show w12.cell? ⟨gx, k, none⟩ = some (.string s) ∧ w12.cell? ⟨gy, k, none⟩ = some (.string s) from ⟨((HB10.out.trans (HBX.out.mono HB10.out.size)).cell (p := ⟨gx, k, none⟩) g1).trans g2, (HBX.out.cell (p := ⟨gy, k, none⟩) g3).trans g4⟩)
          have HL0 := Lib.hid (fun W (hW : W.cell? ⟨gx, k, none⟩ = some (.string s) ∧ W.cell? ⟨gy, k, none⟩ = some (.string s)) => run_cell_s W ⟨gx, k, none⟩ _ hW.1)
          have HL1 := Lib.hid (fun W (hW : W.cell? ⟨gx, k, none⟩ = some (.string s) ∧ W.cell? ⟨gy, k, none⟩ = some (.string s)) => run_cell_s W ⟨gy, k, none⟩ _ hW.2)
          clear hs hs2 g1 g2 g3 g4 hb12
          go_wp2_with fail
          refine anyH_begin (S := fun W => W.cell? ⟨gx, k, none⟩ = some (.string s) ∧ W.cell? ⟨gy, k, none⟩ = some (.string s)) (by kernel_rfl) ?_
          rw [← hw12]
          clear hw12
          refine anyH_pureG 0 (d := 72) (op := .move (.tmp 12)) (gd := none) (.slice (some ⟨gx, 0, none⟩) q xc) (by rfl) (fun o ho => wanted_plain ho _) (by kernel_rfl) (by kernel_rfl) (by kernel_rfl) (fun _ _ _ h => h) (fun o ho W hW => by unfold execOp; simp only [ho]; go_simp) HS.out ?_
          simp only [Act.put, List.setIfInBounds_toArray, List.set_cons_zero, List.set_cons_succ]
          refine anyH_pureG 1 (d := 73) (op := .move (.tmp 14)) (gd := none) (.int .i64 (k : Int)) (by rfl) (fun o ho => wanted_plain ho _) (by kernel_rfl) (by kernel_rfl) (by kernel_rfl) (fun _ _ _ h => h) (fun o ho W hW => by unfold execOp; simp only [ho]; go_simp) HS.out ?_
          simp only [Act.put, List.setIfInBounds_toArray, List.set_cons_zero, List.set_cons_succ]
          refine anyH_pureG 2 (d := 74) (op := .indexAddr 38 (.tmp 72) (.tmp 73)) (gd := none) (.pointer (some ⟨gx, k, none⟩)) (by rfl) (fun o ho => wanted_plain ho _) (by kernel_rfl) (by kernel_rfl) (by kernel_rfl) (fun _ _ _ h => h) (fun o1 ho W hW => exec_sidxT hkq (x := .tmp 72) (y := .tmp 73) (by rfl) (by rfl) o1 ho W) HS.out ?_
          simp only [Act.put, List.setIfInBounds_toArray, List.set_cons_zero, List.set_cons_succ]
          refine anyH_loadG 3 (d := 75) (ty := 9) (x := (.tmp 74)) (gd := none) (p := .pointer (some ⟨gx, k, none⟩)) (.string s) (by rfl) (fun o ho => wanted_plain ho _) (by kernel_rfl) (by kernel_rfl) (by kernel_rfl) (fun _ _ _ h => h) (by rfl) HL0.out HS.out ?_
          simp only [Act.put, List.setIfInBounds_toArray, List.set_cons_zero, List.set_cons_succ]
          refine anyH_pureG 4 (d := 76) (op := .move (.tmp 13)) (gd := none) (.slice (some ⟨gy, 0, none⟩) q yc) (by rfl) (fun o ho => wanted_plain ho _) (by kernel_rfl) (by kernel_rfl) (by kernel_rfl) (fun _ _ _ h => h) (fun o ho W hW => by unfold execOp; simp only [ho]; go_simp) HS.out ?_
          simp only [Act.put, List.setIfInBounds_toArray, List.set_cons_zero, List.set_cons_succ]
          refine anyH_pureG 5 (d := 77) (op := .move (.tmp 14)) (gd := none) (.int .i64 (k : Int)) (by rfl) (fun o ho => wanted_plain ho _) (by kernel_rfl) (by kernel_rfl) (by kernel_rfl) (fun _ _ _ h => h) (fun o ho W hW => by unfold execOp; simp only [ho]; go_simp) HS.out ?_
          simp only [Act.put, List.setIfInBounds_toArray, List.set_cons_zero, List.set_cons_succ]
          refine anyH_pureG 6 (d := 78) (op := .indexAddr 38 (.tmp 76) (.tmp 77)) (gd := none) (.pointer (some ⟨gy, k, none⟩)) (by rfl) (fun o ho => wanted_plain ho _) (by kernel_rfl) (by kernel_rfl) (by kernel_rfl) (fun _ _ _ h => h) (fun o1 ho W hW => exec_sidxT hkq (x := .tmp 76) (y := .tmp 77) (by rfl) (by rfl) o1 ho W) HS.out ?_
          simp only [Act.put, List.setIfInBounds_toArray, List.set_cons_zero, List.set_cons_succ]
          refine anyH_loadG 7 (d := 79) (ty := 9) (x := (.tmp 78)) (gd := none) (p := .pointer (some ⟨gy, k, none⟩)) (.string s) (by rfl) (fun o ho => wanted_plain ho _) (by kernel_rfl) (by kernel_rfl) (by kernel_rfl) (fun _ _ _ h => h) (by rfl) HL1.out HS.out ?_
          simp only [Act.put, List.setIfInBounds_toArray, List.set_cons_zero, List.set_cons_succ]
          refine anyH_pureG 8 (d := 80) (op := .binOp .neq 9 (.tmp 75) (.tmp 79) 9) (gd := none) (.bool false) (by rfl) (fun o ho => wanted_plain ho _) (by kernel_rfl) (by kernel_rfl) (by kernel_rfl) (fun _ _ _ h => h) (fun o ho W hW => by unfold execOp; simp only [ho]; go_simp; try simp) HS.out ?_
          simp only [Act.put, List.setIfInBounds_toArray, List.set_cons_zero, List.set_cons_succ]
          refine wpAnyH_done (by kernel_rfl) ?_ _
          clear HS HL0 HL1
          go_wp2_with fail
          go_roundw
          case rel => exact ⟨k + 1, by omega, by go_num, HBX⟩
          case measure => simp [intOf]; omega
        · obtain rfl : k = q := by omega
          have HB811 := Lib.hid (HB810.out.trans (HBL.out.mono HB810.out.size))
          have HX11 := Lib.hid (HXX.out.step HBL.out)
          have HTM11 := Lib.hid (HTM8.out.below HB811.out)
          have HTR11 := Lib.hid (show TRow w11 tb _ m _ from (HB811.out.block tb (Array.getElem?_eq_some_iff.1 HTR8.out).1).trans HTR8.out)
          have HB11 := Lib.hid (HB8.out.trans (HB811.out.mono HB8.out.size))
          have HRM11 := Lib.hid (HRM8.out.below HB811.out)
          have y0 : w11.cell? ⟨X, 0, none⟩ = some (.string k0) := (cell_of_row w11 X 0 _ _ _ HX11.out).trans rfl
          have HGE := Lib.hid (tget_c HTM11.out HTR11.out k0 HK0.out (Nat.le_trans (HVV.out k0).1 (by omega)))
          have hvm : vn ≤ 40 := by have := HM0.out; have := HRM11.out.ln; omega
          obtain ⟨at1, hat⟩ : ∃ x, x = atP M0 k0 := ⟨_, rfl⟩
          have HAT := Lib.hid hat
          clear HBL HB811 HXX HB810 HOX HOY HLY HCS HQ HB10 HB89 HTM8 HTR8 HRM8 HB8 hat
          cases hz : rF k0 with
          | some z =>
            rw [hz] at HGE
            have HZV := Lib.hid (show z.length ≤ 500 ∧ ∀ y ∈ z, y < 256 from by have := HVV.out k0; rw [hz] at this; exact this)
            have HGZ := Lib.hid (show M0[at1]? = some (k0, z) from by rw [HAT.out]; exact atP_some HS1.out (by rw [HS2.out]; exact hz))
            clear hz
            go_wp2_with fail
            refine HGE.out.mono ?_
            rintro e12 w12 ⟨v12, rfl, ho12, hb12⟩
            obtain ⟨a12, c12, rfl, -, -, -⟩ := Own.rd (show Own w12 w11.heap.size v12 z from ho12) HZV.out.2
            have y0 : w12.cell? ⟨X, 0, none⟩ = some (.string k0) := (hb12.cell (p := ⟨X, 0, none⟩) (Array.getElem?_eq_some_iff.1 HX11.out).1).trans y0
            have HX12 := Lib.hid (HX11.out.step hb12)
            have HRM12 := Lib.hid (HRM11.out.below hb12)
            have HFI := Lib.hid (pfind_c (cap := vc) HRM12.out k0 (by omega))
            rw [← HAT.out] at HFI
            have HO12 := Lib.hid (show Own w12 w11.heap.size (.slice a12 z.length c12) z from ho12)
            have HB12 := Lib.hid hb12
            have hav : at1 < vn := by
              have h1 := (List.getElem?_eq_some_iff.1 HGZ.out).1
              have h2 := HRM12.out.ln
              omega
            clear ho12 hb12 HGE
            simp only [Option.isSome_some]
            go_wp2_with fail
            refine HFI.out.mono ?_
            rintro e13 w13 ⟨rfl, hw13⟩
            subst w13
            clear HFI y0
            obtain ⟨pb, po, f, ra, rn, rc, rfl, hpb, hf, p0, p1, hrb⟩ := HRM12.out.at hav
            rw [HGZ.out] at hf
            cases hf
            obtain ⟨w14, hw14⟩ : ∃ W, W = World.drew w12 := ⟨_, rfl⟩
            have hb14 : Below w12.heap.size w12 w14 := by rw [hw14]; exact below_drewN' _ w12 1
            have HS := Lib.hid (show WdX X k0 k1 w14 ∧ w14.cell? ⟨pb, po + 2 * at1, none⟩ = some (.string k0) from ⟨HX12.out.step hb14, (hb14.cell (p := ⟨pb, po + 2 * at1, none⟩) hpb).trans p0⟩)
            have HL0 := Lib.hid (fun W (hW : WdX X k0 k1 W ∧ W.cell? ⟨pb, po + 2 * at1, none⟩ = some (.string k0)) => run_cell_s W ⟨X, 0, none⟩ _ ((cell_of_row W X 0 _ _ _ hW.1).trans rfl))
            have HL1 := Lib.hid (fun W (hW : WdX X k0 k1 W ∧ W.cell? ⟨pb, po + 2 * at1, none⟩ = some (.string k0)) => run_cell_s W ⟨pb, po + 2 * at1, none⟩ _ hW.2)
            have c1 := (hb14.cell (p := ⟨pb, po + 2 * at1 + 1, none⟩) hpb).trans p1
            have HRB := Lib.hid (hrb.rd.below hb14)
            have HO14 := Lib.hid (HO12.out.keep hb14)
            have HB14 := Lib.hid (HB12.out.trans (hb14.mono HB12.out.size))
            have i1 : (at1 : Int) < (vn : Int) := by omega
            have hrz : rn = z.length := hrb.rd.1.symm
            have HSM := Lib.hid (show Calls Try.prog 15 #[.slice a12 z.length c12, .slice ra rn rc] w14 (RetD (.bool true) w14) from by
              obtain ⟨_, _, e, _, _, q3⟩ := HO14.out.rd HZV.out.2
              obtain ⟨e1, _, _⟩ := Value.slice.inj e
              rw [← e1] at q3
              have := same_c a12 ra z.length c12 rn rc z z w14 q3 HRB.out (by have := HZV.out.1; omega)
              simpa using this)
            have hix := fun W => run_pair_idx W pb po vn vc at1 hav
            clear hpb p0 p1 hrb hb14 hrz
            go_wp2_with fail
            refine anyH_begin (S := fun W => WdX X k0 k1 W ∧ W.cell? ⟨pb, po + 2 * at1, none⟩ = some (.string k0)) (by kernel_rfl) ?_
            rw [← hw14]
            clear hw14
            refine anyH_pureG 0 (d := 93) (op := .move (.tmp 17)) (gd := none) (.int .i64 (at1 : Int)) (by rfl) (fun o ho => wanted_plain ho _) (by kernel_rfl) (by kernel_rfl) (by kernel_rfl) (fun _ _ _ h => h) (fun o ho W hW => by unfold execOp; simp only [ho]; go_simp) HS.out ?_
            simp only [Act.put, List.setIfInBounds_toArray, List.set_cons_zero, List.set_cons_succ]
            refine anyH_pureG 1 (d := 94) (op := .move (.tmp 11)) (gd := none) (.slice (some ⟨pb, po, none⟩) vn vc) (by rfl) (fun o ho => wanted_plain ho _) (by kernel_rfl) (by kernel_rfl) (by kernel_rfl) (fun _ _ _ h => h) (fun o ho W hW => by unfold execOp; simp only [ho]; go_simp) HS.out ?_
            simp only [Act.put, List.setIfInBounds_toArray, List.set_cons_zero, List.set_cons_succ]
            refine anyH_pureG 2 (d := 95) (op := .call { callee := .builtin .len, args := #[(.tmp 94)], argTypes := #[33] }) (gd := none) (.int .i64 (vn : Int)) (by rfl) (fun o ho => wanted_plain ho _) (by kernel_rfl) (by kernel_rfl) (by kernel_rfl) (fun _ _ _ h => h) (fun o ho W hW => by unfold execOp; simp only [ho]; go_simp) HS.out ?_
            simp only [Act.put, List.setIfInBounds_toArray, List.set_cons_zero, List.set_cons_succ]
            refine anyH_pureG 3 (d := 96) (op := .binOp .lss 3 (.tmp 93) (.tmp 95) 3) (gd := none) (.bool true) (by rfl) (fun o ho => wanted_plain ho _) (by kernel_rfl) (by kernel_rfl) (by kernel_rfl) (fun _ _ _ h => h) (fun o ho W hW => by unfold execOp; simp only [ho]; go_simp) HS.out ?_
            simp only [Act.put, List.setIfInBounds_toArray, List.set_cons_zero, List.set_cons_succ]
            refine anyH_pureG 4 (d := 97) (op := .move (.tmp 96)) (gd := none) (.bool true) (by rfl) (fun o ho => wanted_plain ho _) (by kernel_rfl) (by kernel_rfl) (by kernel_rfl) (fun _ _ _ h => h) (fun o ho W hW => by unfold execOp; simp only [ho]; go_simp) HS.out ?_
            simp only [Act.put, List.setIfInBounds_toArray, List.set_cons_zero, List.set_cons_succ]
            refine anyH_pureG 5 (d := 98) (op := .move (.tmp 11)) (gd := some (4, true)) (.slice (some ⟨pb, po, none⟩) vn vc) (by rfl) (fun o ho => by simp only [Region.wanted, ho]; rfl) (by kernel_rfl) (by kernel_rfl) (by kernel_rfl) (fun _ _ _ h => h) (fun o ho W hW => by unfold execOp; simp only [ho]; go_simp) HS.out ?_
            simp only [Act.put, List.setIfInBounds_toArray, List.set_cons_zero, List.set_cons_succ]
            refine anyH_pureG 6 (d := 99) (op := .move (.tmp 17)) (gd := some (4, true)) (.int .i64 (at1 : Int)) (by rfl) (fun o ho => by simp only [Region.wanted, ho]; rfl) (by kernel_rfl) (by kernel_rfl) (by kernel_rfl) (fun _ _ _ h => h) (fun o ho W hW => by unfold execOp; simp only [ho]; go_simp) HS.out ?_
            simp only [Act.put, List.setIfInBounds_toArray, List.set_cons_zero, List.set_cons_succ]
            refine anyH_pureG 7 (d := 100) (op := .indexAddr 33 (.tmp 98) (.tmp 99)) (gd := some (4, true)) (.pointer (some ⟨pb, po + 2 * at1, none⟩)) (by rfl) (fun o ho => by simp only [Region.wanted, ho]; rfl) (by kernel_rfl) (by kernel_rfl) (by kernel_rfl) (fun _ _ _ h => h) (fun o1 ho W hW => exec_pair_idx hav (x := .tmp 98) (y := .tmp 99) (by rfl) (by rfl) o1 ho W) HS.out ?_
            simp only [Act.put, List.setIfInBounds_toArray, List.set_cons_zero, List.set_cons_succ]
            refine anyH_pureG 8 (d := 101) (op := .fieldAddr 46 (.tmp 100) 0) (gd := some (4, true)) (.pointer (some ⟨pb, po + 2 * at1, none⟩)) (by rfl) (fun o ho => by simp only [Region.wanted, ho]; rfl) (by kernel_rfl) (by kernel_rfl) (by kernel_rfl) (fun _ _ _ h => h) (fun o ho W hW => by unfold execOp; simp only [ho]; go_simp) HS.out ?_
            simp only [Act.put, List.setIfInBounds_toArray, List.set_cons_zero, List.set_cons_succ]
            refine anyH_loadG 9 (d := 102) (ty := 9) (x := (.tmp 101)) (gd := some (4, true)) (p := .pointer (some ⟨pb, po + 2 * at1, none⟩)) (.string k0) (by rfl) (fun o ho => by simp only [Region.wanted, ho]; rfl) (by kernel_rfl) (by kernel_rfl) (by kernel_rfl) (fun _ _ _ h => h) (by rfl) HL1.out HS.out ?_
            simp only [Act.put, List.setIfInBounds_toArray, List.set_cons_zero, List.set_cons_succ]
            refine anyH_pureG 10 (d := 103) (op := .indexAddr 23 (.tmp 4) (.const (.int .i64 0))) (gd := some (4, true)) (.pointer (some ⟨X, 0, none⟩)) (by rfl) (fun o ho => by simp only [Region.wanted, ho]; rfl) (by kernel_rfl) (by kernel_rfl) (by kernel_rfl) (fun _ _ _ h => h) (fun o ho W hW => by unfold execOp; simp only [ho]; go_simp) HS.out ?_
            simp only [Act.put, List.setIfInBounds_toArray, List.set_cons_zero, List.set_cons_succ]
            refine anyH_loadG 11 (d := 104) (ty := 9) (x := (.tmp 103)) (gd := some (4, true)) (p := .pointer (some ⟨X, 0, none⟩)) (.string k0) (by rfl) (fun o ho => by simp only [Region.wanted, ho]; rfl) (by kernel_rfl) (by kernel_rfl) (by kernel_rfl) (fun _ _ _ h => h) (by rfl) HL0.out HS.out ?_
            simp only [Act.put, List.setIfInBounds_toArray, List.set_cons_zero, List.set_cons_succ]
            refine anyH_pureG 12 (d := 105) (op := .binOp .eql 9 (.tmp 102) (.tmp 104) 9) (gd := some (4, true)) (.bool true) (by rfl) (fun o ho => by simp only [Region.wanted, ho]; rfl) (by kernel_rfl) (by kernel_rfl) (by kernel_rfl) (fun _ _ _ h => h) (fun o ho W hW => by unfold execOp; simp only [ho]; go_simp; try simp) HS.out ?_
            simp only [Act.put, List.setIfInBounds_toArray, List.set_cons_zero, List.set_cons_succ]
            refine anyH_pureG 13 (d := 106) (op := .pick (.tmp 97) (.tmp 105) (.const (.bool false))) (gd := none) (.bool true) (by rfl) (fun o ho => wanted_plain ho _) (by kernel_rfl) (by kernel_rfl) (by kernel_rfl) (fun _ _ _ h => h) (fun o ho W hW => by unfold execOp; simp only [ho]; go_simp) HS.out ?_
            simp only [Act.put, List.setIfInBounds_toArray, List.set_cons_zero, List.set_cons_succ]
            refine anyH_pureG 14 (d := 18) (op := .assign (.tmp 106)) (gd := none) (.bool true) (by rfl) (fun o ho => wanted_plain ho _) (by kernel_rfl) (by kernel_rfl) (by kernel_rfl) (fun _ _ _ h => h) (fun o ho W hW => by unfold execOp; simp only [ho]; go_simp) HS.out ?_
            simp only [Act.put, List.setIfInBounds_toArray, List.set_cons_zero, List.set_cons_succ]
            refine wpAnyH_done (by kernel_rfl) ?_ _
            clear HS HL0 HL1
            go_wp2_with fail
            refine (HSM.out).mono ?_
            rintro e15 w15 ⟨rfl, q15, hw15⟩
            have hb15 : Below w14.heap.size w14 w15 := by rw [hw15]; exact below_drewN' _ w14 q15
            have HO15 := Lib.hid (HO14.out.keep hb15)
            have HB15 := Lib.hid (HB14.out.trans (hb15.mono HB14.out.size))
            clear hw15 hb15 HSM HO14 HB14 HRB c1 hix
            go_wp2_with fail
            go_loopw [125] (fun i wr => ∃ (j : Nat) (Y : List Nat), j ≤ z.length ∧ i = .int .i64 j ∧ Hid (Own wr w11.heap.size (.slice a12 z.length c12) Y) ∧ Hid (Y.length = z.length) ∧ Hid (∀ y ∈ Y, y < 256) ∧ Hid (Below w11.heap.size w11 wr)) (fun i _ => z.length - (intOf i).toNat)
            case atStart => exact ⟨0, z, Nat.zero_le _, rfl, HO15, Lib.hid rfl, Lib.hid HZV.out.2, HB15⟩
            case round =>
              clear HO15 HB15
              obtain ⟨j, Y, hj, rfl, HO, HLZ, HY, HB⟩ := hrel
              obtain ⟨w16, rfl⟩ : ∃ w16, w16 = wr := ⟨wr, rfl⟩
              have hzl := HZV.out.1
              by_cases hjz : j < z.length
              · obtain ⟨gb, rfl, hgb⟩ : ∃ gb, a12 = some ⟨gb, 0, none⟩ ∧ w11.heap.size ≤ gb := by
                  rcases HO.out.2 with ⟨h0, h1⟩ | ⟨gb, cp, cur, hv, hgb, _⟩
                  · have := HLZ.out; omega
                  · exact ⟨gb, (Value.slice.inj hv).1, hgb⟩
                obtain ⟨y, hy⟩ : ∃ y, y = Y.getD j 0 := ⟨_, rfl⟩
                have hy8 : y < 256 := by rw [hy, getD_at _ _ (by rw [HLZ.out]; exact hjz)]; exact HY.out _ (List.getElem_mem _)
                have hcell : w16.cell? ⟨gb, j, none⟩ = some (.int .u8 (y : Int)) := by rw [hy]; exact HO.out.cellqT HLZ.out j hjz
                have hfz : w16.frozen? ⟨gb, j, none⟩ = false := (HO.out.rowT HLZ.out).frozenAt j
                have hxo := u8_xor255T y hy8
                have HO1 := Lib.hid (HO.out.setqT HLZ.out j (y ^^^ 255))
                have HB1 := Lib.hid (show Below w11.heap.size w11 (w16.setCell ⟨gb, j, none⟩ (.int .u8 ((y ^^^ 255 : Nat) : Int))) from HB.out.setCell hgb _)
                have hx8 : y ^^^ 255 < 256 := Nat.xor_lt_two_pow (n := 8) hy8 (by omega)
                have HY1 := Lib.hid (set_byteT Y j (y ^^^ 255) HY.out hx8)
                have HL1 := Lib.hid (show (Y.set j (y ^^^ 255)).length = z.length from by rw [List.length_set, HLZ.out])
                obtain ⟨x, hx⟩ : ∃ x, x = y ^^^ 255 := ⟨_, rfl⟩
                rw [← hx] at hxo HO1 HB1 HY1 HL1
                clear hy hx hx8 HO HLZ HY HB
                go_wp2
                go_roundw
                case rel => exact ⟨j + 1, Y.set j x, by omega, by go_num, HO1, HL1, HY1, HB1⟩
                case measure => simp [intOf]; omega
              · clear HO HLZ HY
                have HIS := Lib.hid (tis_c (c2 := vc) (HTM11.out.below HB.out) (show TRow w16 tb _ m _ from (HB.out.block tb (Array.getElem?_eq_some_iff.1 HTR11.out).1).trans HTR11.out) (by
                  obtain ⟨l0, g1, g2, g3⟩ := HTM11.out.ks
                  have := HFEW.out l0 g1 fun s hs => (g2 s).1 hs
                  omega) HKY.out (fun s => ⟨Nat.le_trans (HVV.out s).1 (by omega), (HVV.out s).2⟩) (HRM11.out.below HB.out) HS1.out HS2.out (by omega))
                have HBZ := Lib.hid (HB11.out.trans (HB.out.mono HB11.out.size))
                clear HB
                go_wp2_with fail
                refine (HIS.out).mono ?_
                rintro e17 w17 ⟨rfl, hb17⟩
                have HBE := Lib.hid (HB0.out.trans ((HBZ.out.trans (hb17.mono HBZ.out.size)).mono HB0.out.size))
                clear hb17 HIS
                go_wp2_with fail
                go_ret
                exact ⟨rfl, HBE.out⟩
          | none =>
            rw [hz] at HGE
            obtain ⟨z, hz0⟩ : ∃ z : List Nat, z = [] := ⟨_, rfl⟩
            have HZV := Lib.hid (show z.length ≤ 500 ∧ ∀ y ∈ z, y < 256 from by rw [hz0]; exact ⟨Nat.zero_le _, fun y hy => by cases hy⟩)
            have HNO := Lib.hid (show ∀ x, M0[at1]? = some x → x.1 ≠ k0 from by rw [HAT.out]; exact atP_none (by rw [HS2.out]; exact hz))
            have HZ0 := Lib.hid hz0
            clear hz hz0
            go_wp2_with fail
            refine HGE.out.mono ?_
            rintro e12 w12 ⟨v12, rfl, ho12, hb12⟩
            have HOZ := Lib.hid (show Own w12 w11.heap.size v12 z from by rw [HZ0.out]; exact ho12)
            obtain ⟨a12, c12, rfl, -, -, -⟩ := HOZ.out.rd HZV.out.2
            have y0 : w12.cell? ⟨X, 0, none⟩ = some (.string k0) := (hb12.cell (p := ⟨X, 0, none⟩) (Array.getElem?_eq_some_iff.1 HX11.out).1).trans y0
            have HX12 := Lib.hid (HX11.out.step hb12)
            have HRM12 := Lib.hid (HRM11.out.below hb12)
            have HFI := Lib.hid (pfind_c (cap := vc) HRM12.out k0 (by omega))
            rw [← HAT.out] at HFI
            have HB12 := Lib.hid hb12
            clear ho12 hb12 HGE
            simp only [Option.isSome_none]
            go_wp2_with fail
            refine HFI.out.mono ?_
            rintro e13 w13 ⟨rfl, hw13⟩
            subst w13
            clear HFI y0
            obtain ⟨w14, hw14⟩ : ∃ W, W = World.drew w12 := ⟨_, rfl⟩
            have hb14 : Below w12.heap.size w12 w14 := by rw [hw14]; exact below_drewN' _ w12 1
            have HO15 := Lib.hid (HOZ.out.keep hb14)
            have HB15 := Lib.hid (HB12.out.trans (hb14.mono HB12.out.size))
            by_cases hav : at1 < vn
            · obtain ⟨pb, po, f, ra, rn, rc, rfl, hpb, hf, p0, p1, hrb⟩ := HRM12.out.at hav
              have hne := ba_neq (HNO.out f hf)
              have hne2 : (f.1.toList == k0.toList) = false := beq_eq_false_iff_ne.2 hne
              have HS := Lib.hid (show WdX X k0 k1 w14 ∧ w14.cell? ⟨pb, po + 2 * at1, none⟩ = some (.string f.1) from ⟨HX12.out.step hb14, (hb14.cell (p := ⟨pb, po + 2 * at1, none⟩) hpb).trans p0⟩)
              have HL0 := Lib.hid (fun W (hW : WdX X k0 k1 W ∧ W.cell? ⟨pb, po + 2 * at1, none⟩ = some (.string f.1)) => run_cell_s W ⟨X, 0, none⟩ _ ((cell_of_row W X 0 _ _ _ hW.1).trans rfl))
              have HL1 := Lib.hid (fun W (hW : WdX X k0 k1 W ∧ W.cell? ⟨pb, po + 2 * at1, none⟩ = some (.string f.1)) => run_cell_s W ⟨pb, po + 2 * at1, none⟩ _ hW.2)
              have i1 : (at1 : Int) < (vn : Int) := by omega
              clear hpb hf p0 p1 hrb hb14 HOZ HB12
              go_wp2_with fail
              refine anyH_begin (S := fun W => WdX X k0 k1 W ∧ W.cell? ⟨pb, po + 2 * at1, none⟩ = some (.string f.1)) (by kernel_rfl) ?_
              rw [← hw14]
              clear hw14
              refine anyH_pureG 0 (d := 93) (op := .move (.tmp 17)) (gd := none) (.int .i64 (at1 : Int)) (by rfl) (fun o ho => wanted_plain ho _) (by kernel_rfl) (by kernel_rfl) (by kernel_rfl) (fun _ _ _ h => h) (fun o ho W hW => by unfold execOp; simp only [ho]; go_simp) HS.out ?_
              simp only [Act.put, List.setIfInBounds_toArray, List.set_cons_zero, List.set_cons_succ]
              refine anyH_pureG 1 (d := 94) (op := .move (.tmp 11)) (gd := none) (.slice (some ⟨pb, po, none⟩) vn vc) (by rfl) (fun o ho => wanted_plain ho _) (by kernel_rfl) (by kernel_rfl) (by kernel_rfl) (fun _ _ _ h => h) (fun o ho W hW => by unfold execOp; simp only [ho]; go_simp) HS.out ?_
              simp only [Act.put, List.setIfInBounds_toArray, List.set_cons_zero, List.set_cons_succ]
              refine anyH_pureG 2 (d := 95) (op := .call { callee := .builtin .len, args := #[(.tmp 94)], argTypes := #[33] }) (gd := none) (.int .i64 (vn : Int)) (by rfl) (fun o ho => wanted_plain ho _) (by kernel_rfl) (by kernel_rfl) (by kernel_rfl) (fun _ _ _ h => h) (fun o ho W hW => by unfold execOp; simp only [ho]; go_simp) HS.out ?_
              simp only [Act.put, List.setIfInBounds_toArray, List.set_cons_zero, List.set_cons_succ]
              refine anyH_pureG 3 (d := 96) (op := .binOp .lss 3 (.tmp 93) (.tmp 95) 3) (gd := none) (.bool true) (by rfl) (fun o ho => wanted_plain ho _) (by kernel_rfl) (by kernel_rfl) (by kernel_rfl) (fun _ _ _ h => h) (fun o ho W hW => by unfold execOp; simp only [ho]; go_simp) HS.out ?_
              simp only [Act.put, List.setIfInBounds_toArray, List.set_cons_zero, List.set_cons_succ]
              refine anyH_pureG 4 (d := 97) (op := .move (.tmp 96)) (gd := none) (.bool true) (by rfl) (fun o ho => wanted_plain ho _) (by kernel_rfl) (by kernel_rfl) (by kernel_rfl) (fun _ _ _ h => h) (fun o ho W hW => by unfold execOp; simp only [ho]; go_simp) HS.out ?_
              simp only [Act.put, List.setIfInBounds_toArray, List.set_cons_zero, List.set_cons_succ]
              refine anyH_pureG 5 (d := 98) (op := .move (.tmp 11)) (gd := some (4, true)) (.slice (some ⟨pb, po, none⟩) vn vc) (by rfl) (fun o ho => by simp only [Region.wanted, ho]; rfl) (by kernel_rfl) (by kernel_rfl) (by kernel_rfl) (fun _ _ _ h => h) (fun o ho W hW => by unfold execOp; simp only [ho]; go_simp) HS.out ?_
              simp only [Act.put, List.setIfInBounds_toArray, List.set_cons_zero, List.set_cons_succ]
              refine anyH_pureG 6 (d := 99) (op := .move (.tmp 17)) (gd := some (4, true)) (.int .i64 (at1 : Int)) (by rfl) (fun o ho => by simp only [Region.wanted, ho]; rfl) (by kernel_rfl) (by kernel_rfl) (by kernel_rfl) (fun _ _ _ h => h) (fun o ho W hW => by unfold execOp; simp only [ho]; go_simp) HS.out ?_
              simp only [Act.put, List.setIfInBounds_toArray, List.set_cons_zero, List.set_cons_succ]
              refine anyH_pureG 7 (d := 100) (op := .indexAddr 33 (.tmp 98) (.tmp 99)) (gd := some (4, true)) (.pointer (some ⟨pb, po + 2 * at1, none⟩)) (by rfl) (fun o ho => by simp only [Region.wanted, ho]; rfl) (by kernel_rfl) (by kernel_rfl) (by kernel_rfl) (fun _ _ _ h => h) (fun o1 ho W hW => exec_pair_idx hav (x := .tmp 98) (y := .tmp 99) (by rfl) (by rfl) o1 ho W) HS.out ?_
              simp only [Act.put, List.setIfInBounds_toArray, List.set_cons_zero, List.set_cons_succ]
              refine anyH_pureG 8 (d := 101) (op := .fieldAddr 46 (.tmp 100) 0) (gd := some (4, true)) (.pointer (some ⟨pb, po + 2 * at1, none⟩)) (by rfl) (fun o ho => by simp only [Region.wanted, ho]; rfl) (by kernel_rfl) (by kernel_rfl) (by kernel_rfl) (fun _ _ _ h => h) (fun o ho W hW => by unfold execOp; simp only [ho]; go_simp) HS.out ?_
              simp only [Act.put, List.setIfInBounds_toArray, List.set_cons_zero, List.set_cons_succ]
              refine anyH_loadG 9 (d := 102) (ty := 9) (x := (.tmp 101)) (gd := some (4, true)) (p := .pointer (some ⟨pb, po + 2 * at1, none⟩)) (.string f.1) (by rfl) (fun o ho => by simp only [Region.wanted, ho]; rfl) (by kernel_rfl) (by kernel_rfl) (by kernel_rfl) (fun _ _ _ h => h) (by rfl) HL1.out HS.out ?_
              simp only [Act.put, List.setIfInBounds_toArray, List.set_cons_zero, List.set_cons_succ]
              refine anyH_pureG 10 (d := 103) (op := .indexAddr 23 (.tmp 4) (.const (.int .i64 0))) (gd := some (4, true)) (.pointer (some ⟨X, 0, none⟩)) (by rfl) (fun o ho => by simp only [Region.wanted, ho]; rfl) (by kernel_rfl) (by kernel_rfl) (by kernel_rfl) (fun _ _ _ h => h) (fun o ho W hW => by unfold execOp; simp only [ho]; go_simp) HS.out ?_
              simp only [Act.put, List.setIfInBounds_toArray, List.set_cons_zero, List.set_cons_succ]
              refine anyH_loadG 11 (d := 104) (ty := 9) (x := (.tmp 103)) (gd := some (4, true)) (p := .pointer (some ⟨X, 0, none⟩)) (.string k0) (by rfl) (fun o ho => by simp only [Region.wanted, ho]; rfl) (by kernel_rfl) (by kernel_rfl) (by kernel_rfl) (fun _ _ _ h => h) (by rfl) HL0.out HS.out ?_
              simp only [Act.put, List.setIfInBounds_toArray, List.set_cons_zero, List.set_cons_succ]
              refine anyH_pureG 12 (d := 105) (op := .binOp .eql 9 (.tmp 102) (.tmp 104) 9) (gd := some (4, true)) (.bool false) (by rfl) (fun o ho => by simp only [Region.wanted, ho]; rfl) (by kernel_rfl) (by kernel_rfl) (by kernel_rfl) (fun _ _ _ h => h) (fun o ho W hW => by unfold execOp; simp only [ho]; go_simp; try simp) HS.out ?_
              simp only [Act.put, List.setIfInBounds_toArray, List.set_cons_zero, List.set_cons_succ]
              refine anyH_pureG 13 (d := 106) (op := .pick (.tmp 97) (.tmp 105) (.const (.bool false))) (gd := none) (.bool false) (by rfl) (fun o ho => wanted_plain ho _) (by kernel_rfl) (by kernel_rfl) (by kernel_rfl) (fun _ _ _ h => h) (fun o ho W hW => by unfold execOp; simp only [ho]; go_simp) HS.out ?_
              simp only [Act.put, List.setIfInBounds_toArray, List.set_cons_zero, List.set_cons_succ]
              refine anyH_pureG 14 (d := 18) (op := .assign (.tmp 106)) (gd := none) (.bool false) (by rfl) (fun o ho => wanted_plain ho _) (by kernel_rfl) (by kernel_rfl) (by kernel_rfl) (fun _ _ _ h => h) (fun o ho W hW => by unfold execOp; simp only [ho]; go_simp) HS.out ?_
              simp only [Act.put, List.setIfInBounds_toArray, List.set_cons_zero, List.set_cons_succ]
              refine wpAnyH_done (by kernel_rfl) ?_ _
              clear HS HL0 HL1
              go_wp2_with fail
              go_loopw [125] (fun i wr => ∃ (j : Nat) (Y : List Nat), j ≤ z.length ∧ i = .int .i64 j ∧ Hid (Own wr w11.heap.size (.slice a12 z.length c12) Y) ∧ Hid (Y.length = z.length) ∧ Hid (∀ y ∈ Y, y < 256) ∧ Hid (Below w11.heap.size w11 wr)) (fun i _ => z.length - (intOf i).toNat)
              case atStart => exact ⟨0, z, Nat.zero_le _, rfl, HO15, Lib.hid rfl, Lib.hid HZV.out.2, HB15⟩
              case round =>
                clear HO15 HB15
                obtain ⟨j, Y, hj, rfl, HO, HLZ, HY, HB⟩ := hrel
                obtain ⟨w16, rfl⟩ : ∃ w16, w16 = wr := ⟨wr, rfl⟩
                have hzl := HZV.out.1
                by_cases hjz : j < z.length
                · obtain ⟨gb, rfl, hgb⟩ : ∃ gb, a12 = some ⟨gb, 0, none⟩ ∧ w11.heap.size ≤ gb := by
                    rcases HO.out.2 with ⟨h0, h1⟩ | ⟨gb, cp, cur, hv, hgb, _⟩
                    · have := HLZ.out; omega
                    · exact ⟨gb, (Value.slice.inj hv).1, hgb⟩
                  obtain ⟨y, hy⟩ : ∃ y, y = Y.getD j 0 := ⟨_, rfl⟩
                  have hy8 : y < 256 := by rw [hy, getD_at _ _ (by rw [HLZ.out]; exact hjz)]; exact HY.out _ (List.getElem_mem _)
                  have hcell : w16.cell? ⟨gb, j, none⟩ = some (.int .u8 (y : Int)) := by rw [hy]; exact HO.out.cellqT HLZ.out j hjz
                  have hfz : w16.frozen? ⟨gb, j, none⟩ = false := (HO.out.rowT HLZ.out).frozenAt j
                  have hxo := u8_xor255T y hy8
                  have HO1 := Lib.hid (HO.out.setqT HLZ.out j (y ^^^ 255))
                  have HB1 := Lib.hid (show Below w11.heap.size w11 (w16.setCell ⟨gb, j, none⟩ (.int .u8 ((y ^^^ 255 : Nat) : Int))) from HB.out.setCell hgb _)
                  have hx8 : y ^^^ 255 < 256 := Nat.xor_lt_two_pow (n := 8) hy8 (by omega)
                  have HY1 := Lib.hid (set_byteT Y j (y ^^^ 255) HY.out hx8)
                  have HL1 := Lib.hid (show (Y.set j (y ^^^ 255)).length = z.length from by rw [List.length_set, HLZ.out])
                  obtain ⟨x, hx⟩ : ∃ x, x = y ^^^ 255 := ⟨_, rfl⟩
                  rw [← hx] at hxo HO1 HB1 HY1 HL1
                  clear hy hx hx8 HO HLZ HY HB
                  go_wp2
                  go_roundw
                  case rel => exact ⟨j + 1, Y.set j x, by omega, by go_num, HO1, HL1, HY1, HB1⟩
                  case measure => simp [intOf]; omega
                · clear HO HLZ HY
                  have HIS := Lib.hid (tis_c (c2 := vc) (HTM11.out.below HB.out) (show TRow w16 tb _ m _ from (HB.out.block tb (Array.getElem?_eq_some_iff.1 HTR11.out).1).trans HTR11.out) (by
                    obtain ⟨l0, g1, g2, g3⟩ := HTM11.out.ks
                    have := HFEW.out l0 g1 fun s hs => (g2 s).1 hs
                    omega) HKY.out (fun s => ⟨Nat.le_trans (HVV.out s).1 (by omega), (HVV.out s).2⟩) (HRM11.out.below HB.out) HS1.out HS2.out (by omega))
                  have HBZ := Lib.hid (HB11.out.trans (HB.out.mono HB11.out.size))
                  clear HB
                  go_wp2_with fail
                  refine (HIS.out).mono ?_
                  rintro e17 w17 ⟨rfl, hb17⟩
                  have HBE := Lib.hid (HB0.out.trans ((HBZ.out.trans (hb17.mono HBZ.out.size)).mono HB0.out.size))
                  clear hb17 HIS
                  go_wp2_with fail
                  go_ret
                  exact ⟨rfl, HBE.out⟩
            · have HS := Lib.hid (show WdX X k0 k1 w14 from HX12.out.step hb14)
              have i1 : ¬ (at1 : Int) < (vn : Int) := by omega
              clear hb14 HOZ HB12
              go_wp2_with fail
              refine anyH_begin (S := WdX X k0 k1) (by kernel_rfl) ?_
              rw [← hw14]
              clear hw14
              refine anyH_pureG 0 (d := 93) (op := .move (.tmp 17)) (gd := none) (.int .i64 (at1 : Int)) (by rfl) (fun o ho => wanted_plain ho _) (by kernel_rfl) (by kernel_rfl) (by kernel_rfl) (fun _ _ _ h => h) (fun o ho W hW => by unfold execOp; simp only [ho]; go_simp) HS.out ?_
              simp only [Act.put, List.setIfInBounds_toArray, List.set_cons_zero, List.set_cons_succ]
              refine anyH_pureG 1 (d := 94) (op := .move (.tmp 11)) (gd := none) (.slice va vn vc) (by rfl) (fun o ho => wanted_plain ho _) (by kernel_rfl) (by kernel_rfl) (by kernel_rfl) (fun _ _ _ h => h) (fun o ho W hW => by unfold execOp; simp only [ho]; go_simp) HS.out ?_
              simp only [Act.put, List.setIfInBounds_toArray, List.set_cons_zero, List.set_cons_succ]
              refine anyH_pureG 2 (d := 95) (op := .call { callee := .builtin .len, args := #[(.tmp 94)], argTypes := #[33] }) (gd := none) (.int .i64 (vn : Int)) (by rfl) (fun o ho => wanted_plain ho _) (by kernel_rfl) (by kernel_rfl) (by kernel_rfl) (fun _ _ _ h => h) (fun o ho W hW => by unfold execOp; simp only [ho]; go_simp) HS.out ?_
              simp only [Act.put, List.setIfInBounds_toArray, List.set_cons_zero, List.set_cons_succ]
              refine anyH_pureG 3 (d := 96) (op := .binOp .lss 3 (.tmp 93) (.tmp 95) 3) (gd := none) (.bool false) (by rfl) (fun o ho => wanted_plain ho _) (by kernel_rfl) (by kernel_rfl) (by kernel_rfl) (fun _ _ _ h => h) (fun o ho W hW => by unfold execOp; simp only [ho]; go_simp) HS.out ?_
              simp only [Act.put, List.setIfInBounds_toArray, List.set_cons_zero, List.set_cons_succ]
              refine anyH_pureG 4 (d := 97) (op := .move (.tmp 96)) (gd := none) (.bool false) (by rfl) (fun o ho => wanted_plain ho _) (by kernel_rfl) (by kernel_rfl) (by kernel_rfl) (fun _ _ _ h => h) (fun o ho W hW => by unfold execOp; simp only [ho]; go_simp) HS.out ?_
              simp only [Act.put, List.setIfInBounds_toArray, List.set_cons_zero, List.set_cons_succ]
              refine anyH_skip 5 (d := 98) (op := .move (.tmp 11)) (gd := some (4, true)) (by rfl) (fun o ho => by simp only [Region.wanted, ho]; rfl) (by kernel_rfl) (by kernel_rfl) (by kernel_rfl) (fun _ _ _ h => h) HS.out ?_
              simp only [Act.put, List.setIfInBounds_toArray, List.set_cons_zero, List.set_cons_succ]
              refine anyH_skip 6 (d := 99) (op := .move (.tmp 17)) (gd := some (4, true)) (by rfl) (fun o ho => by simp only [Region.wanted, ho]; rfl) (by kernel_rfl) (by kernel_rfl) (by kernel_rfl) (fun _ _ _ h => h) HS.out ?_
              simp only [Act.put, List.setIfInBounds_toArray, List.set_cons_zero, List.set_cons_succ]
              refine anyH_skip 7 (d := 100) (op := .indexAddr 33 (.tmp 98) (.tmp 99)) (gd := some (4, true)) (by rfl) (fun o ho => by simp only [Region.wanted, ho]; rfl) (by kernel_rfl) (by kernel_rfl) (by kernel_rfl) (fun _ _ _ h => h) HS.out ?_
              simp only [Act.put, List.setIfInBounds_toArray, List.set_cons_zero, List.set_cons_succ]
              refine anyH_skip 8 (d := 101) (op := .fieldAddr 46 (.tmp 100) 0) (gd := some (4, true)) (by rfl) (fun o ho => by simp only [Region.wanted, ho]; rfl) (by kernel_rfl) (by kernel_rfl) (by kernel_rfl) (fun _ _ _ h => h) HS.out ?_
              simp only [Act.put, List.setIfInBounds_toArray, List.set_cons_zero, List.set_cons_succ]
              refine anyH_skip 9 (d := 102) (op := .load 9 (.tmp 101)) (gd := some (4, true)) (by rfl) (fun o ho => by simp only [Region.wanted, ho]; rfl) (by kernel_rfl) (by kernel_rfl) (by kernel_rfl) (fun _ _ _ h => h) HS.out ?_
              simp only [Act.put, List.setIfInBounds_toArray, List.set_cons_zero, List.set_cons_succ]
              refine anyH_skip 10 (d := 103) (op := .indexAddr 23 (.tmp 4) (.const (.int .i64 0))) (gd := some (4, true)) (by rfl) (fun o ho => by simp only [Region.wanted, ho]; rfl) (by kernel_rfl) (by kernel_rfl) (by kernel_rfl) (fun _ _ _ h => h) HS.out ?_
              simp only [Act.put, List.setIfInBounds_toArray, List.set_cons_zero, List.set_cons_succ]
              refine anyH_skip 11 (d := 104) (op := .load 9 (.tmp 103)) (gd := some (4, true)) (by rfl) (fun o ho => by simp only [Region.wanted, ho]; rfl) (by kernel_rfl) (by kernel_rfl) (by kernel_rfl) (fun _ _ _ h => h) HS.out ?_
              simp only [Act.put, List.setIfInBounds_toArray, List.set_cons_zero, List.set_cons_succ]
              refine anyH_skip 12 (d := 105) (op := .binOp .eql 9 (.tmp 102) (.tmp 104) 9) (gd := some (4, true)) (by rfl) (fun o ho => by simp only [Region.wanted, ho]; rfl) (by kernel_rfl) (by kernel_rfl) (by kernel_rfl) (fun _ _ _ h => h) HS.out ?_
              simp only [Act.put, List.setIfInBounds_toArray, List.set_cons_zero, List.set_cons_succ]
              refine anyH_pureG 13 (d := 106) (op := .pick (.tmp 97) (.tmp 105) (.const (.bool false))) (gd := none) (.bool false) (by rfl) (fun o ho => wanted_plain ho _) (by kernel_rfl) (by kernel_rfl) (by kernel_rfl) (fun _ _ _ h => h) (fun o ho W hW => by unfold execOp; simp only [ho]; go_simp) HS.out ?_
              simp only [Act.put, List.setIfInBounds_toArray, List.set_cons_zero, List.set_cons_succ]
              refine anyH_pureG 14 (d := 18) (op := .assign (.tmp 106)) (gd := none) (.bool false) (by rfl) (fun o ho => wanted_plain ho _) (by kernel_rfl) (by kernel_rfl) (by kernel_rfl) (fun _ _ _ h => h) (fun o ho W hW => by unfold execOp; simp only [ho]; go_simp) HS.out ?_
              simp only [Act.put, List.setIfInBounds_toArray, List.set_cons_zero, List.set_cons_succ]
              refine wpAnyH_done (by kernel_rfl) ?_ _
              clear HS
              go_wp2_with fail
              go_loopw [125] (fun i wr => ∃ (j : Nat) (Y : List Nat), j ≤ z.length ∧ i = .int .i64 j ∧ Hid (Own wr w11.heap.size (.slice a12 z.length c12) Y) ∧ Hid (Y.length = z.length) ∧ Hid (∀ y ∈ Y, y < 256) ∧ Hid (Below w11.heap.size w11 wr)) (fun i _ => z.length - (intOf i).toNat)
              case atStart => exact ⟨0, z, Nat.zero_le _, rfl, HO15, Lib.hid rfl, Lib.hid HZV.out.2, HB15⟩
              case round =>
                clear HO15 HB15
                obtain ⟨j, Y, hj, rfl, HO, HLZ, HY, HB⟩ := hrel
                obtain ⟨w16, rfl⟩ : ∃ w16, w16 = wr := ⟨wr, rfl⟩
                have hzl := HZV.out.1
                by_cases hjz : j < z.length
                · obtain ⟨gb, rfl, hgb⟩ : ∃ gb, a12 = some ⟨gb, 0, none⟩ ∧ w11.heap.size ≤ gb := by
                    rcases HO.out.2 with ⟨h0, h1⟩ | ⟨gb, cp, cur, hv, hgb, _⟩
                    · have := HLZ.out; omega
                    · exact ⟨gb, (Value.slice.inj hv).1, hgb⟩
                  obtain ⟨y, hy⟩ : ∃ y, y = Y.getD j 0 := ⟨_, rfl⟩
                  have hy8 : y < 256 := by rw [hy, getD_at _ _ (by rw [HLZ.out]; exact hjz)]; exact HY.out _ (List.getElem_mem _)
                  have hcell : w16.cell? ⟨gb, j, none⟩ = some (.int .u8 (y : Int)) := by rw [hy]; exact HO.out.cellqT HLZ.out j hjz
                  have hfz : w16.frozen? ⟨gb, j, none⟩ = false := (HO.out.rowT HLZ.out).frozenAt j
                  have hxo := u8_xor255T y hy8
                  have HO1 := Lib.hid (HO.out.setqT HLZ.out j (y ^^^ 255))
                  have HB1 := Lib.hid (show Below w11.heap.size w11 (w16.setCell ⟨gb, j, none⟩ (.int .u8 ((y ^^^ 255 : Nat) : Int))) from HB.out.setCell hgb _)
                  have hx8 : y ^^^ 255 < 256 := Nat.xor_lt_two_pow (n := 8) hy8 (by omega)
                  have HY1 := Lib.hid (set_byteT Y j (y ^^^ 255) HY.out hx8)
                  have HL1 := Lib.hid (show (Y.set j (y ^^^ 255)).length = z.length from by rw [List.length_set, HLZ.out])
                  obtain ⟨x, hx⟩ : ∃ x, x = y ^^^ 255 := ⟨_, rfl⟩
                  rw [← hx] at hxo HO1 HB1 HY1 HL1
                  clear hy hx hx8 HO HLZ HY HB
                  go_wp2
                  go_roundw
                  case rel => exact ⟨j + 1, Y.set j x, by omega, by go_num, HO1, HL1, HY1, HB1⟩
                  case measure => simp [intOf]; omega
                · clear HO HLZ HY
                  have HIS := Lib.hid (tis_c (c2 := vc) (HTM11.out.below HB.out) (show TRow w16 tb _ m _ from (HB.out.block tb (Array.getElem?_eq_some_iff.1 HTR11.out).1).trans HTR11.out) (by
                    obtain ⟨l0, g1, g2, g3⟩ := HTM11.out.ks
                    have := HFEW.out l0 g1 fun s hs => (g2 s).1 hs
                    omega) HKY.out (fun s => ⟨Nat.le_trans (HVV.out s).1 (by omega), (HVV.out s).2⟩) (HRM11.out.below HB.out) HS1.out HS2.out (by omega))
                  have HBZ := Lib.hid (HB11.out.trans (HB.out.mono HB11.out.size))
                  clear HB
                  go_wp2_with fail
                  refine (HIS.out).mono ?_
                  rintro e17 w17 ⟨rfl, hb17⟩
                  have HBE := Lib.hid (HB0.out.trans ((HBZ.out.trans (hb17.mono HBZ.out.size)).mono HB0.out.size))
                  clear hb17 HIS
                  go_wp2_with fail
                  go_ret
                  exact ⟨rfl, HBE.out⟩
    · have HF := Lib.hid (show ∀ s, rF s = none from fun s => by
        rw [HRF.out]
        unfold taF
        rw [← HRE.out, if_neg hE])
      have HKY := Lib.hid (show ∀ s, (rF s).isSome = true → s.size ≤ 400 ∧ kyP ⟨#[]⟩ ⟨#[]⟩ s = true from fun s hs => by rw [HF.out] at hs; cases hs)
      have HVV := Lib.hid (show ∀ s, ((rF s).getD []).length ≤ 500 ∧ ∀ z ∈ (rF s).getD [], z < 256 from fun s => by rw [HF.out]; exact ⟨Nat.zero_le _, fun z hz => by cases hz⟩)
      have HFEW := Lib.hid (show ∀ l : List ByteArray, l.Nodup → (∀ s ∈ l, (rF s).isSome = true) → l.length ≤ 40 from fun l hn hk => by
        cases l with
        | nil => exact Nat.zero_le _
        | cons x r =>
          have h1 := hk x List.mem_cons_self
          rw [HF.out] at h1
          cases h1)
      clear HRE HRF
      go_wp2_with fail
      obtain ⟨M0, hM0⟩ : ∃ M0 : Fls, M0 = [] := ⟨_, rfl⟩
      have HM0 := Lib.hid (show M0.length ≤ 40 from by rw [hM0]; exact Nat.zero_le _)
      have HS1 := Lib.hid (show Srt M0 from by rw [hM0]; exact List.Pairwise.nil)
      have HS2 := Lib.hid (show ∀ s, lookF M0 s = rF s from fun s => by rw [hM0, HF.out]; rfl)
      obtain ⟨w7, rfl⟩ : ∃ w7, w7 = w6 := ⟨w6, rfl⟩
      generalize hV : (Value.slice none 0 0) = V11
      obtain ⟨va, vn, vc, rfl, hrm⟩ : ∃ va vn vc, V11 = .slice va vn vc ∧ RF (fun _ => False) w7 va vn M0 := ⟨none, 0, 0, hV.symm, by rw [hM0]; exact RF.nil _ _ _⟩
      have HRM := Lib.hid hrm
      have HTM7 := Lib.hid HTM.out
      have HTR7 := Lib.hid HTR.out
      have HB7 := Lib.hid HB6.out
      clear hV hrm hM0 HTM HTR HB6 HL6 HF HM HML
      obtain ⟨w8, hw8⟩ : ∃ W, W = World.drew w7 := ⟨_, rfl⟩
      have hb8 : Below w7.heap.size w7 w8 := by rw [hw8]; exact below_drewN' _ w7 1
      have HB8 := Lib.hid (HB7.out.trans (hb8.mono HB7.out.size))
      have HS := Lib.hid (show WdX X k0 k1 w8 from WdX.step (WdX.step HX.out HB7.out) hb8)
      have HTM8 := Lib.hid (HTM7.out.below hb8)
      have HTR8 := Lib.hid (show TRow w8 tb _ m _ from (hb8.block tb (Array.getElem?_eq_some_iff.1 HTR7.out).1).trans HTR7.out)
      have HRM8 := Lib.hid (HRM.out.below hb8)
      have HMS := Lib.hid (show Maps.size D ≤ 100000 from by
        obtain ⟨l0, g1, g2, g3⟩ := HTM7.out.ks
        have := HFEW.out l0 g1 fun s hs => (g2 s).1 hs
        omega)
      have HKT := Lib.hid (tkeys_c HTM8.out HTR8.out k0 k1 most HMS.out fun s hs => (HKY.out s hs).1)
      have HPK := Lib.hid (fun W (hW : Below w8.heap.size w8 W) => pkeys_c (cap := vc) (HRM8.out.below hW) k0 k1 most (by have := HM0.out; have := HRM8.out.ln; omega) (fun p hp => by
        have h1 := lookF_of_mem HS1.out hp
        rw [HS2.out] at h1
        exact Nat.le_trans (HKY.out p.1 (by rw [h1]; rfl)).1 (by unfold maxLen; omega)) HK0.out)
      have HL0 := Lib.hid (fun W (hW : WdX X k0 k1 W) => run_cell_s W ⟨X, 0, none⟩ _ ((cell_of_row W X 0 _ _ _ hW).trans rfl))
      have HL1 := Lib.hid (fun W (hW : WdX X k0 k1 W) => run_cell_s W ⟨X, 1, none⟩ _ ((cell_of_row W X 1 _ _ _ hW).trans rfl))
      clear hb8 HTM7 HTR7 HRM HB7
      go_wp2_with fail
      refine anyH_begin (S := WdX X k0 k1) (by kernel_rfl) ?_
      rw [← hw8]
      clear hw8
      refine anyH_pureG 0 (d := 48) (op := .move (.tmp 9)) (gd := none) (.pointer (some ⟨tb, 0, none⟩)) (by rfl) (fun o ho => wanted_plain ho _) (by kernel_rfl) (by kernel_rfl) (by kernel_rfl) (fun _ _ _ h => h) (fun o ho W hW => by unfold execOp; simp only [ho]; go_simp) HS.out ?_
      simp only [Act.put, List.setIfInBounds_toArray, List.set_cons_zero, List.set_cons_succ]
      refine anyH_pureG 1 (d := 49) (op := .indexAddr 23 (.tmp 4) (.const (.int .i64 0))) (gd := none) (.pointer (some ⟨X, 0, none⟩)) (by rfl) (fun o ho => wanted_plain ho _) (by kernel_rfl) (by kernel_rfl) (by kernel_rfl) (fun _ _ _ h => h) (fun o ho W hW => by unfold execOp; simp only [ho]; go_simp) HS.out ?_
      simp only [Act.put, List.setIfInBounds_toArray, List.set_cons_zero, List.set_cons_succ]
      refine anyH_loadG 2 (d := 50) (ty := 9) (x := (.tmp 49)) (gd := none) (p := .pointer (some ⟨X, 0, none⟩)) (.string k0) (by rfl) (fun o ho => wanted_plain ho _) (by kernel_rfl) (by kernel_rfl) (by kernel_rfl) (fun _ _ _ h => h) (by rfl) HL0.out HS.out ?_
      simp only [Act.put, List.setIfInBounds_toArray, List.set_cons_zero, List.set_cons_succ]
      refine anyH_pureG 3 (d := 51) (op := .indexAddr 23 (.tmp 4) (.const (.int .i64 1))) (gd := none) (.pointer (some ⟨X, 1, none⟩)) (by rfl) (fun o ho => wanted_plain ho _) (by kernel_rfl) (by kernel_rfl) (by kernel_rfl) (fun _ _ _ h => h) (fun o ho W hW => by unfold execOp; simp only [ho]; go_simp) HS.out ?_
      simp only [Act.put, List.setIfInBounds_toArray, List.set_cons_zero, List.set_cons_succ]
      refine anyH_loadG 4 (d := 52) (ty := 9) (x := (.tmp 51)) (gd := none) (p := .pointer (some ⟨X, 1, none⟩)) (.string k1) (by rfl) (fun o ho => wanted_plain ho _) (by kernel_rfl) (by kernel_rfl) (by kernel_rfl) (fun _ _ _ h => h) (by rfl) HL1.out HS.out ?_
      simp only [Act.put, List.setIfInBounds_toArray, List.set_cons_zero, List.set_cons_succ]
      refine anyH_pureG 5 (d := 53) (op := .move (.tmp 2)) (gd := none) (.int .i64 most) (by rfl) (fun o ho => wanted_plain ho _) (by kernel_rfl) (by kernel_rfl) (by kernel_rfl) (fun _ _ _ h => h) (fun o ho W hW => by unfold execOp; simp only [ho]; go_simp) HS.out ?_
      simp only [Act.put, List.setIfInBounds_toArray, List.set_cons_zero, List.set_cons_succ]
      refine anyH_pureG 7 (d := 55) (op := .move (.tmp 11)) (gd := none) (.slice va vn vc) (by rfl) (fun o ho => wanted_plain ho _) (by kernel_rfl) (by kernel_rfl) (by kernel_rfl) (fun _ _ _ h => h) (fun o ho W hW => by unfold execOp; simp only [ho]; go_simp) HS.out ?_
      simp only [Act.put, List.setIfInBounds_toArray, List.set_cons_zero, List.set_cons_succ]
      refine anyH_pureG 8 (d := 56) (op := .indexAddr 23 (.tmp 4) (.const (.int .i64 0))) (gd := none) (.pointer (some ⟨X, 0, none⟩)) (by rfl) (fun o ho => wanted_plain ho _) (by kernel_rfl) (by kernel_rfl) (by kernel_rfl) (fun _ _ _ h => h) (fun o ho W hW => by unfold execOp; simp only [ho]; go_simp) HS.out ?_
      simp only [Act.put, List.setIfInBounds_toArray, List.set_cons_zero, List.set_cons_succ]
      refine anyH_loadG 9 (d := 57) (ty := 9) (x := (.tmp 56)) (gd := none) (p := .pointer (some ⟨X, 0, none⟩)) (.string k0) (by rfl) (fun o ho => wanted_plain ho _) (by kernel_rfl) (by kernel_rfl) (by kernel_rfl) (fun _ _ _ h => h) (by rfl) HL0.out HS.out ?_
      simp only [Act.put, List.setIfInBounds_toArray, List.set_cons_zero, List.set_cons_succ]
      refine anyH_pureG 10 (d := 58) (op := .indexAddr 23 (.tmp 4) (.const (.int .i64 1))) (gd := none) (.pointer (some ⟨X, 1, none⟩)) (by rfl) (fun o ho => wanted_plain ho _) (by kernel_rfl) (by kernel_rfl) (by kernel_rfl) (fun _ _ _ h => h) (fun o ho W hW => by unfold execOp; simp only [ho]; go_simp) HS.out ?_
      simp only [Act.put, List.setIfInBounds_toArray, List.set_cons_zero, List.set_cons_succ]
      refine anyH_loadG 11 (d := 59) (ty := 9) (x := (.tmp 58)) (gd := none) (p := .pointer (some ⟨X, 1, none⟩)) (.string k1) (by rfl) (fun o ho => wanted_plain ho _) (by kernel_rfl) (by kernel_rfl) (by kernel_rfl) (fun _ _ _ h => h) (by rfl) HL1.out HS.out ?_
      simp only [Act.put, List.setIfInBounds_toArray, List.set_cons_zero, List.set_cons_succ]
      refine anyH_pureG 12 (d := 60) (op := .move (.tmp 2)) (gd := none) (.int .i64 most) (by rfl) (fun o ho => wanted_plain ho _) (by kernel_rfl) (by kernel_rfl) (by kernel_rfl) (fun _ _ _ h => h) (fun o ho W hW => by unfold execOp; simp only [ho]; go_simp) HS.out ?_
      simp only [Act.put, List.setIfInBounds_toArray, List.set_cons_zero, List.set_cons_succ]
      refine anyH_callG 6 (d := some 54) (f := 11) (xs := #[(.tmp 48), (.tmp 50), (.tmp 52), (.tmp 53)]) (ts := #[28, 9, 9, 3]) (gd := none) (vs := #[.pointer (some ⟨tb, 0, none⟩), .string k0, .string k1, .int .i64 most]) (by kernel_rfl) (by rfl) (fun o ho => wanted_plain ho _) (by go_simp) (by go_simp) (HKT.out) ?_
      rintro e9 w9 ⟨cs, xa, xc, hnd, hmem, hsrt, rfl, hown, hb9⟩
      have HCS := Lib.hid (show cs = keysP M0 k0 k1 from keys_same HS1.out HS2.out hnd hmem hsrt)
      obtain ⟨q, hq⟩ : ∃ q, q = (min (max most 0) (cs.length : Nat)).toNat := ⟨_, rfl⟩
      rw [← hq]
      have HQ := Lib.hid hq
      have HOX := Lib.hid hown
      have HB89 := Lib.hid hb9
      have HS := Lib.hid (HS.out.step hb9)
      have HPK := Lib.hid (HPK.out w9 hb9)
      clear hnd hmem hsrt hq hown hb9 HKT
      refine ⟨_, rfl, HS.out, fun _ => ?_⟩
      simp only [Act.put, List.setIfInBounds_toArray, List.set_cons_zero, List.set_cons_succ]
      refine anyH_callG 13 (d := some 61) (f := 12) (xs := #[(.tmp 55), (.tmp 57), (.tmp 59), (.tmp 60)]) (ts := #[33, 9, 9, 3]) (gd := none) (vs := #[.slice va vn vc, .string k0, .string k1, .int .i64 most]) (by kernel_rfl) (by rfl) (fun o ho => wanted_plain ho _) (by go_simp) (by go_simp) (HPK.out) ?_
      rintro e10 w10 ⟨v10, rfl, hoy, hb10⟩
      have hly : ((keysP M0 k0 k1).take most.toNat).length = q := by
        rw [List.length_take, HQ.out, ← HCS.out]
        omega
      obtain ⟨ya, yc, rfl⟩ : ∃ ya yc, v10 = .slice ya q yc := by
        rcases hoy.2 with ⟨g1, g2⟩ | ⟨g, c, cur, g1, _⟩
        · exact ⟨_, _, by rw [← hly, g2]; exact g1⟩
        · exact ⟨_, _, by rw [← hly]; exact g1⟩
      have HOY := Lib.hid hoy
      have HB10 := Lib.hid hb10
      have HLY := Lib.hid hly
      have HS := Lib.hid (HS.out.step hb10)
      clear hoy hb10 hly HPK
      refine ⟨_, rfl, HS.out, fun _ => ?_⟩
      simp only [Act.put, List.setIfInBounds_toArray, List.set_cons_zero, List.set_cons_succ]
      refine anyH_pureG 14 (d := 12) (op := .assign (.tmp 54)) (gd := none) (.slice xa q xc) (by rfl) (fun o ho => wanted_plain ho _) (by kernel_rfl) (by kernel_rfl) (by kernel_rfl) (fun _ _ _ h => h) (fun o ho W hW => by unfold execOp; simp only [ho]; go_simp) HS.out ?_
      simp only [Act.put, List.setIfInBounds_toArray, List.set_cons_zero, List.set_cons_succ]
      refine anyH_pureG 15 (d := 13) (op := .assign (.tmp 61)) (gd := none) (.slice ya q yc) (by rfl) (fun o ho => wanted_plain ho _) (by kernel_rfl) (by kernel_rfl) (by kernel_rfl) (fun _ _ _ h => h) (fun o ho W hW => by unfold execOp; simp only [ho]; go_simp) HS.out ?_
      simp only [Act.put, List.setIfInBounds_toArray, List.set_cons_zero, List.set_cons_succ]
      refine wpAnyH_done (by kernel_rfl) ?_ _
      have HXX := Lib.hid HS.out
      have HB810 := Lib.hid (HB89.out.trans (HB10.out.mono HB89.out.size))
      have hq40 : q ≤ 40 := by
        have h1 := keysP_len M0 k0 k1
        rw [← HCS.out] at h1
        have h2 := HQ.out
        have h3 := HM0.out
        omega
      clear HS HL0 HL1 HMS
      go_wp2_with fail
      go_loopw [69] (fun i wr => ∃ k : Nat, k ≤ q ∧ i = .int .i64 k ∧ Hid (Below w10.heap.size w10 wr)) (fun i _ => q - (intOf i).toNat)
      case atStart => exact ⟨0, Nat.zero_le _, rfl, Lib.hid (Below.refl _ _)⟩
      case round =>
        obtain ⟨k, hk, rfl, HBL⟩ := hrel
        obtain ⟨w11, rfl⟩ : ∃ w11, w11 = wr := ⟨wr, rfl⟩
        by_cases hkq : k < q
        · have hkc : k < cs.length := by have := HQ.out; omega
          obtain ⟨s, hs⟩ : ∃ s, cs[k]? = some s := ⟨_, List.getElem?_eq_getElem hkc⟩
          have hs2 : ((keysP M0 k0 k1).take most.toNat)[k]? = some s := by
            rw [List.getElem?_take, if_pos (by have := HLY.out; rw [List.length_take] at this; omega), ← HCS.out]
            exact hs
          obtain ⟨gx, rfl, g1, g2⟩ := OwnS.cellT HOX.out rfl hs
          obtain ⟨gy, rfl, g3, g4⟩ := OwnS.cellT HOY.out HLY.out.symm hs2
          obtain ⟨w12, hw12⟩ : ∃ W, W = World.drew w11 := ⟨_, rfl⟩
          have hb12 : Below w11.heap.size w11 w12 := by rw [hw12]; exact below_drewN' _ w11 1
          have HBX := Lib.hid (HBL.out.trans (hb12.mono HBL.out.size))
          have HS := Lib.hid (show w12.cell? ⟨gx, k, none⟩ = some (.string s) ∧ w12.cell? ⟨gy, k, none⟩ = some (.string s) from ⟨((HB10.out.trans (HBX.out.mono HB10.out.size)).cell (p := ⟨gx, k, none⟩) g1).trans g2, (HBX.out.cell (p := ⟨gy, k, none⟩) g3).trans g4⟩)
          have HL0 := Lib.hid (fun W (hW : W.cell? ⟨gx, k, none⟩ = some (.string s) ∧ W.cell? ⟨gy, k, none⟩ = some (.string s)) => run_cell_s W ⟨gx, k, none⟩ _ hW.1)
          have HL1 := Lib.hid (fun W (hW : W.cell? ⟨gx, k, none⟩ = some (.string s) ∧ W.cell? ⟨gy, k, none⟩ = some (.string s)) => run_cell_s W ⟨gy, k, none⟩ _ hW.2)
          clear hs hs2 g1 g2 g3 g4 hb12
          go_wp2_with fail
          refine anyH_begin (S := fun W => W.cell? ⟨gx, k, none⟩ = some (.string s) ∧ W.cell? ⟨gy, k, none⟩ = some (.string s)) (by kernel_rfl) ?_
          rw [← hw12]
          clear hw12
          refine anyH_pureG 0 (d := 72) (op := .move (.tmp 12)) (gd := none) (.slice (some ⟨gx, 0, none⟩) q xc) (by rfl) (fun o ho => wanted_plain ho _) (by kernel_rfl) (by kernel_rfl) (by kernel_rfl) (fun _ _ _ h => h) (fun o ho W hW => by unfold execOp; simp only [ho]; go_simp) HS.out ?_
          simp only [Act.put, List.setIfInBounds_toArray, List.set_cons_zero, List.set_cons_succ]
          refine anyH_pureG 1 (d := 73) (op := .move (.tmp 14)) (gd := none) (.int .i64 (k : Int)) (by rfl) (fun o ho => wanted_plain ho _) (by kernel_rfl) (by kernel_rfl) (by kernel_rfl) (fun _ _ _ h => h) (fun o ho W hW => by unfold execOp; simp only [ho]; go_simp) HS.out ?_
          simp only [Act.put, List.setIfInBounds_toArray, List.set_cons_zero, List.set_cons_succ]
          refine anyH_pureG 2 (d := 74) (op := .indexAddr 38 (.tmp 72) (.tmp 73)) (gd := none) (.pointer (some ⟨gx, k, none⟩)) (by rfl) (fun o ho => wanted_plain ho _) (by kernel_rfl) (by kernel_rfl) (by kernel_rfl) (fun _ _ _ h => h) (fun o1 ho W hW => exec_sidxT hkq (x := .tmp 72) (y := .tmp 73) (by rfl) (by rfl) o1 ho W) HS.out ?_
          simp only [Act.put, List.setIfInBounds_toArray, List.set_cons_zero, List.set_cons_succ]
          refine anyH_loadG 3 (d := 75) (ty := 9) (x := (.tmp 74)) (gd := none) (p := .pointer (some ⟨gx, k, none⟩)) (.string s) (by rfl) (fun o ho => wanted_plain ho _) (by kernel_rfl) (by kernel_rfl) (by kernel_rfl) (fun _ _ _ h => h) (by rfl) HL0.out HS.out ?_
          simp only [Act.put, List.setIfInBounds_toArray, List.set_cons_zero, List.set_cons_succ]
          refine anyH_pureG 4 (d := 76) (op := .move (.tmp 13)) (gd := none) (.slice (some ⟨gy, 0, none⟩) q yc) (by rfl) (fun o ho => wanted_plain ho _) (by kernel_rfl) (by kernel_rfl) (by kernel_rfl) (fun _ _ _ h => h) (fun o ho W hW => by unfold execOp; simp only [ho]; go_simp) HS.out ?_
          simp only [Act.put, List.setIfInBounds_toArray, List.set_cons_zero, List.set_cons_succ]
          refine anyH_pureG 5 (d := 77) (op := .move (.tmp 14)) (gd := none) (.int .i64 (k : Int)) (by rfl) (fun o ho => wanted_plain ho _) (by kernel_rfl) (by kernel_rfl) (by kernel_rfl) (fun _ _ _ h => h) (fun o ho W hW => by unfold execOp; simp only [ho]; go_simp) HS.out ?_
          simp only [Act.put, List.setIfInBounds_toArray, List.set_cons_zero, List.set_cons_succ]
          refine anyH_pureG 6 (d := 78) (op := .indexAddr 38 (.tmp 76) (.tmp 77)) (gd := none) (.pointer (some ⟨gy, k, none⟩)) (by rfl) (fun o ho => wanted_plain ho _) (by kernel_rfl) (by kernel_rfl) (by kernel_rfl) (fun _ _ _ h => h) (fun o1 ho W hW => exec_sidxT hkq (x := .tmp 76) (y := .tmp 77) (by rfl) (by rfl) o1 ho W) HS.out ?_
          simp only [Act.put, List.setIfInBounds_toArray, List.set_cons_zero, List.set_cons_succ]
          refine anyH_loadG 7 (d := 79) (ty := 9) (x := (.tmp 78)) (gd := none) (p := .pointer (some ⟨gy, k, none⟩)) (.string s) (by rfl) (fun o ho => wanted_plain ho _) (by kernel_rfl) (by kernel_rfl) (by kernel_rfl) (fun _ _ _ h => h) (by rfl) HL1.out HS.out ?_
          simp only [Act.put, List.setIfInBounds_toArray, List.set_cons_zero, List.set_cons_succ]
          refine anyH_pureG 8 (d := 80) (op := .binOp .neq 9 (.tmp 75) (.tmp 79) 9) (gd := none) (.bool false) (by rfl) (fun o ho => wanted_plain ho _) (by kernel_rfl) (by kernel_rfl) (by kernel_rfl) (fun _ _ _ h => h) (fun o ho W hW => by unfold execOp; simp only [ho]; go_simp; try simp) HS.out ?_
          simp only [Act.put, List.setIfInBounds_toArray, List.set_cons_zero, List.set_cons_succ]
          refine wpAnyH_done (by kernel_rfl) ?_ _
          clear HS HL0 HL1
          go_wp2_with fail
          go_roundw
          case rel => exact ⟨k + 1, by omega, by go_num, HBX⟩
          case measure => simp [intOf]; omega
        · obtain rfl : k = q := by omega
          have HB811 := Lib.hid (HB810.out.trans (HBL.out.mono HB810.out.size))
          have HX11 := Lib.hid (HXX.out.step HBL.out)
          have HTM11 := Lib.hid (HTM8.out.below HB811.out)
          have HTR11 := Lib.hid (show TRow w11 tb _ m _ from (HB811.out.block tb (Array.getElem?_eq_some_iff.1 HTR8.out).1).trans HTR8.out)
          have HB11 := Lib.hid (HB8.out.trans (HB811.out.mono HB8.out.size))
          have HRM11 := Lib.hid (HRM8.out.below HB811.out)
          have y0 : w11.cell? ⟨X, 0, none⟩ = some (.string k0) := (cell_of_row w11 X 0 _ _ _ HX11.out).trans rfl
          have HGE := Lib.hid (tget_c HTM11.out HTR11.out k0 HK0.out (Nat.le_trans (HVV.out k0).1 (by omega)))
          have hvm : vn ≤ 40 := by have := HM0.out; have := HRM11.out.ln; omega
          obtain ⟨at1, hat⟩ : ∃ x, x = atP M0 k0 := ⟨_, rfl⟩
          have HAT := Lib.hid hat
          clear HBL HB811 HXX HB810 HOX HOY HLY HCS HQ HB10 HB89 HTM8 HTR8 HRM8 HB8 hat
          cases hz : rF k0 with
          | some z =>
            rw [hz] at HGE
            have HZV := Lib.hid (show z.length ≤ 500 ∧ ∀ y ∈ z, y < 256 from by have := HVV.out k0; rw [hz] at this; exact this)
            have HGZ := Lib.hid (show M0[at1]? = some (k0, z) from by rw [HAT.out]; exact atP_some HS1.out (by rw [HS2.out]; exact hz))
            clear hz
            go_wp2_with fail
            refine HGE.out.mono ?_
            rintro e12 w12 ⟨v12, rfl, ho12, hb12⟩
            obtain ⟨a12, c12, rfl, -, -, -⟩ := Own.rd (show Own w12 w11.heap.size v12 z from ho12) HZV.out.2
            have y0 : w12.cell? ⟨X, 0, none⟩ = some (.string k0) := (hb12.cell (p := ⟨X, 0, none⟩) (Array.getElem?_eq_some_iff.1 HX11.out).1).trans y0
            have HX12 := Lib.hid (HX11.out.step hb12)
            have HRM12 := Lib.hid (HRM11.out.below hb12)
            have HFI := Lib.hid (pfind_c (cap := vc) HRM12.out k0 (by omega))
            rw [← HAT.out] at HFI
            have HO12 := Lib.hid (show Own w12 w11.heap.size (.slice a12 z.length c12) z from ho12)
            have HB12 := Lib.hid hb12
            have hav : at1 < vn := by
              have h1 := (List.getElem?_eq_some_iff.1 HGZ.out).1
              have h2 := HRM12.out.ln
              omega
            clear ho12 hb12 HGE
            simp only [Option.isSome_some]
            go_wp2_with fail
            refine HFI.out.mono ?_
            rintro e13 w13 ⟨rfl, hw13⟩
            subst w13
            clear HFI y0
            obtain ⟨pb, po, f, ra, rn, rc, rfl, hpb, hf, p0, p1, hrb⟩ := HRM12.out.at hav
            rw [HGZ.out] at hf
            cases hf
            obtain ⟨w14, hw14⟩ : ∃ W, W = World.drew w12 := ⟨_, rfl⟩
            have hb14 : Below w12.heap.size w12 w14 := by rw [hw14]; exact below_drewN' _ w12 1
            have HS := Lib.hid (show WdX X k0 k1 w14 ∧ w14.cell? ⟨pb, po + 2 * at1, none⟩ = some (.string k0) from ⟨HX12.out.step hb14, (hb14.cell (p := ⟨pb, po + 2 * at1, none⟩) hpb).trans p0⟩)
            have HL0 := Lib.hid (fun W (hW : WdX X k0 k1 W ∧ W.cell? ⟨pb, po + 2 * at1, none⟩ = some (.string k0)) => run_cell_s W ⟨X, 0, none⟩ _ ((cell_of_row W X 0 _ _ _ hW.1).trans rfl))
            have HL1 := Lib.hid (fun W (hW : WdX X k0 k1 W ∧ W.cell? ⟨pb, po + 2 * at1, none⟩ = some (.string k0)) => run_cell_s W ⟨pb, po + 2 * at1, none⟩ _ hW.2)
            have c1 := (hb14.cell (p := ⟨pb, po + 2 * at1 + 1, none⟩) hpb).trans p1
            have HRB := Lib.hid (hrb.rd.below hb14)
            have HO14 := Lib.hid (HO12.out.keep hb14)
            have HB14 := Lib.hid (HB12.out.trans (hb14.mono HB12.out.size))
            have i1 : (at1 : Int) < (vn : Int) := by omega
            have hrz : rn = z.length := hrb.rd.1.symm
            have HSM := Lib.hid (show Calls Try.prog 15 #[.slice a12 z.length c12, .slice ra rn rc] w14 (RetD (.bool true) w14) from by
              obtain ⟨_, _, e, _, _, q3⟩ := HO14.out.rd HZV.out.2
              obtain ⟨e1, _, _⟩ := Value.slice.inj e
              rw [← e1] at q3
              have := same_c a12 ra z.length c12 rn rc z z w14 q3 HRB.out (by have := HZV.out.1; omega)
              simpa using this)
            have hix := fun W => run_pair_idx W pb po vn vc at1 hav
            clear hpb p0 p1 hrb hb14 hrz
            go_wp2_with fail
            refine anyH_begin (S := fun W => WdX X k0 k1 W ∧ W.cell? ⟨pb, po + 2 * at1, none⟩ = some (.string k0)) (by kernel_rfl) ?_
            rw [← hw14]
            clear hw14
            refine anyH_pureG 0 (d := 93) (op := .move (.tmp 17)) (gd := none) (.int .i64 (at1 : Int)) (by rfl) (fun o ho => wanted_plain ho _) (by kernel_rfl) (by kernel_rfl) (by kernel_rfl) (fun _ _ _ h => h) (fun o ho W hW => by unfold execOp; simp only [ho]; go_simp) HS.out ?_
            simp only [Act.put, List.setIfInBounds_toArray, List.set_cons_zero, List.set_cons_succ]
            refine anyH_pureG 1 (d := 94) (op := .move (.tmp 11)) (gd := none) (.slice (some ⟨pb, po, none⟩) vn vc) (by rfl) (fun o ho => wanted_plain ho _) (by kernel_rfl) (by kernel_rfl) (by kernel_rfl) (fun _ _ _ h => h) (fun o ho W hW => by unfold execOp; simp only [ho]; go_simp) HS.out ?_
            simp only [Act.put, List.setIfInBounds_toArray, List.set_cons_zero, List.set_cons_succ]
            refine anyH_pureG 2 (d := 95) (op := .call { callee := .builtin .len, args := #[(.tmp 94)], argTypes := #[33] }) (gd := none) (.int .i64 (vn : Int)) (by rfl) (fun o ho => wanted_plain ho _) (by kernel_rfl) (by kernel_rfl) (by kernel_rfl) (fun _ _ _ h => h) (fun o ho W hW => by unfold execOp; simp only [ho]; go_simp) HS.out ?_
            simp only [Act.put, List.setIfInBounds_toArray, List.set_cons_zero, List.set_cons_succ]
            refine anyH_pureG 3 (d := 96) (op := .binOp .lss 3 (.tmp 93) (.tmp 95) 3) (gd := none) (.bool true) (by rfl) (fun o ho => wanted_plain ho _) (by kernel_rfl) (by kernel_rfl) (by kernel_rfl) (fun _ _ _ h => h) (fun o ho W hW => by unfold execOp; simp only [ho]; go_simp) HS.out ?_
            simp only [Act.put, List.setIfInBounds_toArray, List.set_cons_zero, List.set_cons_succ]
            refine anyH_pureG 4 (d := 97) (op := .move (.tmp 96)) (gd := none) (.bool true) (by rfl) (fun o ho => wanted_plain ho _) (by kernel_rfl) (by kernel_rfl) (by kernel_rfl) (fun _ _ _ h => h) (fun o ho W hW => by unfold execOp; simp only [ho]; go_simp) HS.out ?_
            simp only [Act.put, List.setIfInBounds_toArray, List.set_cons_zero, List.set_cons_succ]
            refine anyH_pureG 5 (d := 98) (op := .move (.tmp 11)) (gd := some (4, true)) (.slice (some ⟨pb, po, none⟩) vn vc) (by rfl) (fun o ho => by simp only [Region.wanted, ho]; rfl) (by kernel_rfl) (by kernel_rfl) (by kernel_rfl) (fun _ _ _ h => h) (fun o ho W hW => by unfold execOp; simp only [ho]; go_simp) HS.out ?_
            simp only [Act.put, List.setIfInBounds_toArray, List.set_cons_zero, List.set_cons_succ]
            refine anyH_pureG 6 (d := 99) (op := .move (.tmp 17)) (gd := some (4, true)) (.int .i64 (at1 : Int)) (by rfl) (fun o ho => by simp only [Region.wanted, ho]; rfl) (by kernel_rfl) (by kernel_rfl) (by kernel_rfl) (fun _ _ _ h => h) (fun o ho W hW => by unfold execOp; simp only [ho]; go_simp) HS.out ?_
            simp only [Act.put, List.setIfInBounds_toArray, List.set_cons_zero, List.set_cons_succ]
            refine anyH_pureG 7 (d := 100) (op := .indexAddr 33 (.tmp 98) (.tmp 99)) (gd := some (4, true)) (.pointer (some ⟨pb, po + 2 * at1, none⟩)) (by rfl) (fun o ho => by simp only [Region.wanted, ho]; rfl) (by kernel_rfl) (by kernel_rfl) (by kernel_rfl) (fun _ _ _ h => h) (fun o1 ho W hW => exec_pair_idx hav (x := .tmp 98) (y := .tmp 99) (by rfl) (by rfl) o1 ho W) HS.out ?_
            simp only [Act.put, List.setIfInBounds_toArray, List.set_cons_zero, List.set_cons_succ]
            refine anyH_pureG 8 (d := 101) (op := .fieldAddr 46 (.tmp 100) 0) (gd := some (4, true)) (.pointer (some ⟨pb, po + 2 * at1, none⟩)) (by rfl) (fun o ho => by simp only [Region.wanted, ho]; rfl) (by kernel_rfl) (by kernel_rfl) (by kernel_rfl) (fun _ _ _ h => h) (fun o ho W hW => by unfold execOp; simp only [ho]; go_simp) HS.out ?_
            simp only [Act.put, List.setIfInBounds_toArray, List.set_cons_zero, List.set_cons_succ]
            refine anyH_loadG 9 (d := 102) (ty := 9) (x := (.tmp 101)) (gd := some (4, true)) (p := .pointer (some ⟨pb, po + 2 * at1, none⟩)) (.string k0) (by rfl) (fun o ho => by simp only [Region.wanted, ho]; rfl) (by kernel_rfl) (by kernel_rfl) (by kernel_rfl) (fun _ _ _ h => h) (by rfl) HL1.out HS.out ?_
            simp only [Act.put, List.setIfInBounds_toArray, List.set_cons_zero, List.set_cons_succ]
            refine anyH_pureG 10 (d := 103) (op := .indexAddr 23 (.tmp 4) (.const (.int .i64 0))) (gd := some (4, true)) (.pointer (some ⟨X, 0, none⟩)) (by rfl) (fun o ho => by simp only [Region.wanted, ho]; rfl) (by kernel_rfl) (by kernel_rfl) (by kernel_rfl) (fun _ _ _ h => h) (fun o ho W hW => by unfold execOp; simp only [ho]; go_simp) HS.out ?_
            simp only [Act.put, List.setIfInBounds_toArray, List.set_cons_zero, List.set_cons_succ]
            refine anyH_loadG 11 (d := 104) (ty := 9) (x := (.tmp 103)) (gd := some (4, true)) (p := .pointer (some ⟨X, 0, none⟩)) (.string k0) (by rfl) (fun o ho => by simp only [Region.wanted, ho]; rfl) (by kernel_rfl) (by kernel_rfl) (by kernel_rfl) (fun _ _ _ h => h) (by rfl) HL0.out HS.out ?_
            simp only [Act.put, List.setIfInBounds_toArray, List.set_cons_zero, List.set_cons_succ]
            refine anyH_pureG 12 (d := 105) (op := .binOp .eql 9 (.tmp 102) (.tmp 104) 9) (gd := some (4, true)) (.bool true) (by rfl) (fun o ho => by simp only [Region.wanted, ho]; rfl) (by kernel_rfl) (by kernel_rfl) (by kernel_rfl) (fun _ _ _ h => h) (fun o ho W hW => by unfold execOp; simp only [ho]; go_simp; try simp) HS.out ?_
            simp only [Act.put, List.setIfInBounds_toArray, List.set_cons_zero, List.set_cons_succ]
            refine anyH_pureG 13 (d := 106) (op := .pick (.tmp 97) (.tmp 105) (.const (.bool false))) (gd := none) (.bool true) (by rfl) (fun o ho => wanted_plain ho _) (by kernel_rfl) (by kernel_rfl) (by kernel_rfl) (fun _ _ _ h => h) (fun o ho W hW => by unfold execOp; simp only [ho]; go_simp) HS.out ?_
            simp only [Act.put, List.setIfInBounds_toArray, List.set_cons_zero, List.set_cons_succ]
            refine anyH_pureG 14 (d := 18) (op := .assign (.tmp 106)) (gd := none) (.bool true) (by rfl) (fun o ho => wanted_plain ho _) (by kernel_rfl) (by kernel_rfl) (by kernel_rfl) (fun _ _ _ h => h) (fun o ho W hW => by unfold execOp; simp only [ho]; go_simp) HS.out ?_
            simp only [Act.put, List.setIfInBounds_toArray, List.set_cons_zero, List.set_cons_succ]
            refine wpAnyH_done (by kernel_rfl) ?_ _
            clear HS HL0 HL1
            go_wp2_with fail
            refine (HSM.out).mono ?_
            rintro e15 w15 ⟨rfl, q15, hw15⟩
            have hb15 : Below w14.heap.size w14 w15 := by rw [hw15]; exact below_drewN' _ w14 q15
            have HO15 := Lib.hid (HO14.out.keep hb15)
            have HB15 := Lib.hid (HB14.out.trans (hb15.mono HB14.out.size))
            clear hw15 hb15 HSM HO14 HB14 HRB c1 hix
            go_wp2_with fail
            go_loopw [125] (fun i wr => ∃ (j : Nat) (Y : List Nat), j ≤ z.length ∧ i = .int .i64 j ∧ Hid (Own wr w11.heap.size (.slice a12 z.length c12) Y) ∧ Hid (Y.length = z.length) ∧ Hid (∀ y ∈ Y, y < 256) ∧ Hid (Below w11.heap.size w11 wr)) (fun i _ => z.length - (intOf i).toNat)
            case atStart => exact ⟨0, z, Nat.zero_le _, rfl, HO15, Lib.hid rfl, Lib.hid HZV.out.2, HB15⟩
            case round =>
              clear HO15 HB15
              obtain ⟨j, Y, hj, rfl, HO, HLZ, HY, HB⟩ := hrel
              obtain ⟨w16, rfl⟩ : ∃ w16, w16 = wr := ⟨wr, rfl⟩
              have hzl := HZV.out.1
              by_cases hjz : j < z.length
              · obtain ⟨gb, rfl, hgb⟩ : ∃ gb, a12 = some ⟨gb, 0, none⟩ ∧ w11.heap.size ≤ gb := by
                  rcases HO.out.2 with ⟨h0, h1⟩ | ⟨gb, cp, cur, hv, hgb, _⟩
                  · have := HLZ.out; omega
                  · exact ⟨gb, (Value.slice.inj hv).1, hgb⟩
                obtain ⟨y, hy⟩ : ∃ y, y = Y.getD j 0 := ⟨_, rfl⟩
                have hy8 : y < 256 := by rw [hy, getD_at _ _ (by rw [HLZ.out]; exact hjz)]; exact HY.out _ (List.getElem_mem _)
                have hcell : w16.cell? ⟨gb, j, none⟩ = some (.int .u8 (y : Int)) := by rw [hy]; exact HO.out.cellqT HLZ.out j hjz
                have hfz : w16.frozen? ⟨gb, j, none⟩ = false := (HO.out.rowT HLZ.out).frozenAt j
                have hxo := u8_xor255T y hy8
                have HO1 := Lib.hid (HO.out.setqT HLZ.out j (y ^^^ 255))
                have HB1 := Lib.hid (show Below w11.heap.size w11 (w16.setCell ⟨gb, j, none⟩ (.int .u8 ((y ^^^ 255 : Nat) : Int))) from HB.out.setCell hgb _)
                have hx8 : y ^^^ 255 < 256 := Nat.xor_lt_two_pow (n := 8) hy8 (by omega)
                have HY1 := Lib.hid (set_byteT Y j (y ^^^ 255) HY.out hx8)
                have HL1 := Lib.hid (show (Y.set j (y ^^^ 255)).length = z.length from by rw [List.length_set, HLZ.out])
                obtain ⟨x, hx⟩ : ∃ x, x = y ^^^ 255 := ⟨_, rfl⟩
                rw [← hx] at hxo HO1 HB1 HY1 HL1
                clear hy hx hx8 HO HLZ HY HB
                go_wp2
                go_roundw
                case rel => exact ⟨j + 1, Y.set j x, by omega, by go_num, HO1, HL1, HY1, HB1⟩
                case measure => simp [intOf]; omega
              · clear HO HLZ HY
                have HIS := Lib.hid (tis_c (c2 := vc) (HTM11.out.below HB.out) (show TRow w16 tb _ m _ from (HB.out.block tb (Array.getElem?_eq_some_iff.1 HTR11.out).1).trans HTR11.out) (by
                  obtain ⟨l0, g1, g2, g3⟩ := HTM11.out.ks
                  have := HFEW.out l0 g1 fun s hs => (g2 s).1 hs
                  omega) HKY.out (fun s => ⟨Nat.le_trans (HVV.out s).1 (by omega), (HVV.out s).2⟩) (HRM11.out.below HB.out) HS1.out HS2.out (by omega))
                have HBZ := Lib.hid (HB11.out.trans (HB.out.mono HB11.out.size))
                clear HB
                go_wp2_with fail
                refine (HIS.out).mono ?_
                rintro e17 w17 ⟨rfl, hb17⟩
                have HBE := Lib.hid (HB0.out.trans ((HBZ.out.trans (hb17.mono HBZ.out.size)).mono HB0.out.size))
                clear hb17 HIS
                go_wp2_with fail
                go_ret
                exact ⟨rfl, HBE.out⟩
          | none =>
            rw [hz] at HGE
            obtain ⟨z, hz0⟩ : ∃ z : List Nat, z = [] := ⟨_, rfl⟩
            have HZV := Lib.hid (show z.length ≤ 500 ∧ ∀ y ∈ z, y < 256 from by rw [hz0]; exact ⟨Nat.zero_le _, fun y hy => by cases hy⟩)
            have HNO := Lib.hid (show ∀ x, M0[at1]? = some x → x.1 ≠ k0 from by rw [HAT.out]; exact atP_none (by rw [HS2.out]; exact hz))
            have HZ0 := Lib.hid hz0
            clear hz hz0
            go_wp2_with fail
            refine HGE.out.mono ?_
            rintro e12 w12 ⟨v12, rfl, ho12, hb12⟩
            have HOZ := Lib.hid (show Own w12 w11.heap.size v12 z from by rw [HZ0.out]; exact ho12)
            obtain ⟨a12, c12, rfl, -, -, -⟩ := HOZ.out.rd HZV.out.2
            have y0 : w12.cell? ⟨X, 0, none⟩ = some (.string k0) := (hb12.cell (p := ⟨X, 0, none⟩) (Array.getElem?_eq_some_iff.1 HX11.out).1).trans y0
            have HX12 := Lib.hid (HX11.out.step hb12)
            have HRM12 := Lib.hid (HRM11.out.below hb12)
            have HFI := Lib.hid (pfind_c (cap := vc) HRM12.out k0 (by omega))
            rw [← HAT.out] at HFI
            have HB12 := Lib.hid hb12
            clear ho12 hb12 HGE
            simp only [Option.isSome_none]
            go_wp2_with fail
            refine HFI.out.mono ?_
            rintro e13 w13 ⟨rfl, hw13⟩
            subst w13
            clear HFI y0
            obtain ⟨w14, hw14⟩ : ∃ W, W = World.drew w12 := ⟨_, rfl⟩
            have hb14 : Below w12.heap.size w12 w14 := by rw [hw14]; exact below_drewN' _ w12 1
            have HO15 := Lib.hid (HOZ.out.keep hb14)
            have HB15 := Lib.hid (HB12.out.trans (hb14.mono HB12.out.size))
            by_cases hav : at1 < vn
            · obtain ⟨pb, po, f, ra, rn, rc, rfl, hpb, hf, p0, p1, hrb⟩ := HRM12.out.at hav
              have hne := ba_neq (HNO.out f hf)
              have hne2 : (f.1.toList == k0.toList) = false := beq_eq_false_iff_ne.2 hne
              have HS := Lib.hid (show WdX X k0 k1 w14 ∧ w14.cell? ⟨pb, po + 2 * at1, none⟩ = some (.string f.1) from ⟨HX12.out.step hb14, (hb14.cell (p := ⟨pb, po + 2 * at1, none⟩) hpb).trans p0⟩)
              have HL0 := Lib.hid (fun W (hW : WdX X k0 k1 W ∧ W.cell? ⟨pb, po + 2 * at1, none⟩ = some (.string f.1)) => run_cell_s W ⟨X, 0, none⟩ _ ((cell_of_row W X 0 _ _ _ hW.1).trans rfl))
              have HL1 := Lib.hid (fun W (hW : WdX X k0 k1 W ∧ W.cell? ⟨pb, po + 2 * at1, none⟩ = some (.string f.1)) => run_cell_s W ⟨pb, po + 2 * at1, none⟩ _ hW.2)
              have i1 : (at1 : Int) < (vn : Int) := by omega
              clear hpb hf p0 p1 hrb hb14 HOZ HB12
              go_wp2_with fail
              refine anyH_begin (S := fun W => WdX X k0 k1 W ∧ W.cell? ⟨pb, po + 2 * at1, none⟩ = some (.string f.1)) (by kernel_rfl) ?_
              rw [← hw14]
              clear hw14
              refine anyH_pureG 0 (d := 93) (op := .move (.tmp 17)) (gd := none) (.int .i64 (at1 : Int)) (by rfl) (fun o ho => wanted_plain ho _) (by kernel_rfl) (by kernel_rfl) (by kernel_rfl) (fun _ _ _ h => h) (fun o ho W hW => by unfold execOp; simp only [ho]; go_simp) HS.out ?_
              simp only [Act.put, List.setIfInBounds_toArray, List.set_cons_zero, List.set_cons_succ]
              refine anyH_pureG 1 (d := 94) (op := .move (.tmp 11)) (gd := none) (.slice (some ⟨pb, po, none⟩) vn vc) (by rfl) (fun o ho => wanted_plain ho _) (by kernel_rfl) (by kernel_rfl) (by kernel_rfl) (fun _ _ _ h => h) (fun o ho W hW => by unfold execOp; simp only [ho]; go_simp) HS.out ?_
              simp only [Act.put, List.setIfInBounds_toArray, List.set_cons_zero, List.set_cons_succ]
              refine anyH_pureG 2 (d := 95) (op := .call { callee := .builtin .len, args := #[(.tmp 94)], argTypes := #[33] }) (gd := none) (.int .i64 (vn : Int)) (by rfl) (fun o ho => wanted_plain ho _) (by kernel_rfl) (by kernel_rfl) (by kernel_rfl) (fun _ _ _ h => h) (fun o ho W hW => by unfold execOp; simp only [ho]; go_simp) HS.out ?_
              simp only [Act.put, List.setIfInBounds_toArray, List.set_cons_zero, List.set_cons_succ]
              refine anyH_pureG 3 (d := 96) (op := .binOp .lss 3 (.tmp 93) (.tmp 95) 3) (gd := none) (.bool true) (by rfl) (fun o ho => wanted_plain ho _) (by kernel_rfl) (by kernel_rfl) (by kernel_rfl) (fun _ _ _ h => h) (fun o ho W hW => by unfold execOp; simp only [ho]; go_simp) HS.out ?_
              simp only [Act.put, List.setIfInBounds_toArray, List.set_cons_zero, List.set_cons_succ]
              refine anyH_pureG 4 (d := 97) (op := .move (.tmp 96)) (gd := none) (.bool true) (by rfl) (fun o ho => wanted_plain ho _) (by kernel_rfl) (by kernel_rfl) (by kernel_rfl) (fun _ _ _ h => h) (fun o ho W hW => by unfold execOp; simp only [ho]; go_simp) HS.out ?_
              simp only [Act.put, List.setIfInBounds_toArray, List.set_cons_zero, List.set_cons_succ]
              refine anyH_pureG 5 (d := 98) (op := .move (.tmp 11)) (gd := some (4, true)) (.slice (some ⟨pb, po, none⟩) vn vc) (by rfl) (fun o ho => by simp only [Region.wanted, ho]; rfl) (by kernel_rfl) (by kernel_rfl) (by kernel_rfl) (fun _ _ _ h => h) (fun o ho W hW => by unfold execOp; simp only [ho]; go_simp) HS.out ?_
              simp only [Act.put, List.setIfInBounds_toArray, List.set_cons_zero, List.set_cons_succ]
              refine anyH_pureG 6 (d := 99) (op := .move (.tmp 17)) (gd := some (4, true)) (.int .i64 (at1 : Int)) (by rfl) (fun o ho => by simp only [Region.wanted, ho]; rfl) (by kernel_rfl) (by kernel_rfl) (by kernel_rfl) (fun _ _ _ h => h) (fun o ho W hW => by unfold execOp; simp only [ho]; go_simp) HS.out ?_
              simp only [Act.put, List.setIfInBounds_toArray, List.set_cons_zero, List.set_cons_succ]
              refine anyH_pureG 7 (d := 100) (op := .indexAddr 33 (.tmp 98) (.tmp 99)) (gd := some (4, true)) (.pointer (some ⟨pb, po + 2 * at1, none⟩)) (by rfl) (fun o ho => by simp only [Region.wanted, ho]; rfl) (by kernel_rfl) (by kernel_rfl) (by kernel_rfl) (fun _ _ _ h => h) (fun o1 ho W hW => exec_pair_idx hav (x := .tmp 98) (y := .tmp 99) (by rfl) (by rfl) o1 ho W) HS.out ?_
              simp only [Act.put, List.setIfInBounds_toArray, List.set_cons_zero, List.set_cons_succ]
              refine anyH_pureG 8 (d := 101) (op := .fieldAddr 46 (.tmp 100) 0) (gd := some (4, true)) (.pointer (some ⟨pb, po + 2 * at1, none⟩)) (by rfl) (fun o ho => by simp only [Region.wanted, ho]; rfl) (by kernel_rfl) (by kernel_rfl) (by kernel_rfl) (fun _ _ _ h => h) (fun o ho W hW => by unfold execOp; simp only [ho]; go_simp) HS.out ?_
              simp only [Act.put, List.setIfInBounds_toArray, List.set_cons_zero, List.set_cons_succ]
              refine anyH_loadG 9 (d := 102) (ty := 9) (x := (.tmp 101)) (gd := some (4, true)) (p := .pointer (some ⟨pb, po + 2 * at1, none⟩)) (.string f.1) (by rfl) (fun o ho => by simp only [Region.wanted, ho]; rfl) (by kernel_rfl) (by kernel_rfl) (by kernel_rfl) (fun _ _ _ h => h) (by rfl) HL1.out HS.out ?_
              simp only [Act.put, List.setIfInBounds_toArray, List.set_cons_zero, List.set_cons_succ]
              refine anyH_pureG 10 (d := 103) (op := .indexAddr 23 (.tmp 4) (.const (.int .i64 0))) (gd := some (4, true)) (.pointer (some ⟨X, 0, none⟩)) (by rfl) (fun o ho => by simp only [Region.wanted, ho]; rfl) (by kernel_rfl) (by kernel_rfl) (by kernel_rfl) (fun _ _ _ h => h) (fun o ho W hW => by unfold execOp; simp only [ho]; go_simp) HS.out ?_
              simp only [Act.put, List.setIfInBounds_toArray, List.set_cons_zero, List.set_cons_succ]
              refine anyH_loadG 11 (d := 104) (ty := 9) (x := (.tmp 103)) (gd := some (4, true)) (p := .pointer (some ⟨X, 0, none⟩)) (.string k0) (by rfl) (fun o ho => by simp only [Region.wanted, ho]; rfl) (by kernel_rfl) (by kernel_rfl) (by kernel_rfl) (fun _ _ _ h => h) (by rfl) HL0.out HS.out ?_
              simp only [Act.put, List.setIfInBounds_toArray, List.set_cons_zero, List.set_cons_succ]
              refine anyH_pureG 12 (d := 105) (op := .binOp .eql 9 (.tmp 102) (.tmp 104) 9) (gd := some (4, true)) (.bool false) (by rfl) (fun o ho => by simp only [Region.wanted, ho]; rfl) (by kernel_rfl) (by kernel_rfl) (by kernel_rfl) (fun _ _ _ h => h) (fun o ho W hW => by unfold execOp; simp only [ho]; go_simp; try simp) HS.out ?_
              simp only [Act.put, List.setIfInBounds_toArray, List.set_cons_zero, List.set_cons_succ]
              refine anyH_pureG 13 (d := 106) (op := .pick (.tmp 97) (.tmp 105) (.const (.bool false))) (gd := none) (.bool false) (by rfl) (fun o ho => wanted_plain ho _) (by kernel_rfl) (by kernel_rfl) (by kernel_rfl) (fun _ _ _ h => h) (fun o ho W hW => by unfold execOp; simp only [ho]; go_simp) HS.out ?_
              simp only [Act.put, List.setIfInBounds_toArray, List.set_cons_zero, List.set_cons_succ]
              refine anyH_pureG 14 (d := 18) (op := .assign (.tmp 106)) (gd := none) (.bool false) (by rfl) (fun o ho => wanted_plain ho _) (by kernel_rfl) (by kernel_rfl) (by kernel_rfl) (fun _ _ _ h => h) (fun o ho W hW => by unfold execOp; simp only [ho]; go_simp) HS.out ?_
              simp only [Act.put, List.setIfInBounds_toArray, List.set_cons_zero, List.set_cons_succ]
              refine wpAnyH_done (by kernel_rfl) ?_ _
              clear HS HL0 HL1
              go_wp2_with fail
              go_loopw [125] (fun i wr => ∃ (j : Nat) (Y : List Nat), j ≤ z.length ∧ i = .int .i64 j ∧ Hid (Own wr w11.heap.size (.slice a12 z.length c12) Y) ∧ Hid (Y.length = z.length) ∧ Hid (∀ y ∈ Y, y < 256) ∧ Hid (Below w11.heap.size w11 wr)) (fun i _ => z.length - (intOf i).toNat)
              case atStart => exact ⟨0, z, Nat.zero_le _, rfl, HO15, Lib.hid rfl, Lib.hid HZV.out.2, HB15⟩
              case round =>
                clear HO15 HB15
                obtain ⟨j, Y, hj, rfl, HO, HLZ, HY, HB⟩ := hrel
                obtain ⟨w16, rfl⟩ : ∃ w16, w16 = wr := ⟨wr, rfl⟩
                have hzl := HZV.out.1
                by_cases hjz : j < z.length
                · obtain ⟨gb, rfl, hgb⟩ : ∃ gb, a12 = some ⟨gb, 0, none⟩ ∧ w11.heap.size ≤ gb := by
                    rcases HO.out.2 with ⟨h0, h1⟩ | ⟨gb, cp, cur, hv, hgb, _⟩
                    · have := HLZ.out; omega
                    · exact ⟨gb, (Value.slice.inj hv).1, hgb⟩
                  obtain ⟨y, hy⟩ : ∃ y, y = Y.getD j 0 := ⟨_, rfl⟩
                  have hy8 : y < 256 := by rw [hy, getD_at _ _ (by rw [HLZ.out]; exact hjz)]; exact HY.out _ (List.getElem_mem _)
                  have hcell : w16.cell? ⟨gb, j, none⟩ = some (.int .u8 (y : Int)) := by rw [hy]; exact HO.out.cellqT HLZ.out j hjz
                  have hfz : w16.frozen? ⟨gb, j, none⟩ = false := (HO.out.rowT HLZ.out).frozenAt j
                  have hxo := u8_xor255T y hy8
                  have HO1 := Lib.hid (HO.out.setqT HLZ.out j (y ^^^ 255))
                  have HB1 := Lib.hid (show Below w11.heap.size w11 (w16.setCell ⟨gb, j, none⟩ (.int .u8 ((y ^^^ 255 : Nat) : Int))) from HB.out.setCell hgb _)
                  have hx8 : y ^^^ 255 < 256 := Nat.xor_lt_two_pow (n := 8) hy8 (by omega)
                  have HY1 := Lib.hid (set_byteT Y j (y ^^^ 255) HY.out hx8)
                  have HL1 := Lib.hid (show (Y.set j (y ^^^ 255)).length = z.length from by rw [List.length_set, HLZ.out])
                  obtain ⟨x, hx⟩ : ∃ x, x = y ^^^ 255 := ⟨_, rfl⟩
                  rw [← hx] at hxo HO1 HB1 HY1 HL1
                  clear hy hx hx8 HO HLZ HY HB
                  go_wp2
                  go_roundw
                  case rel => exact ⟨j + 1, Y.set j x, by omega, by go_num, HO1, HL1, HY1, HB1⟩
                  case measure => simp [intOf]; omega
                · clear HO HLZ HY
                  have HIS := Lib.hid (tis_c (c2 := vc) (HTM11.out.below HB.out) (show TRow w16 tb _ m _ from (HB.out.block tb (Array.getElem?_eq_some_iff.1 HTR11.out).1).trans HTR11.out) (by
                    obtain ⟨l0, g1, g2, g3⟩ := HTM11.out.ks
                    have := HFEW.out l0 g1 fun s hs => (g2 s).1 hs
                    omega) HKY.out (fun s => ⟨Nat.le_trans (HVV.out s).1 (by omega), (HVV.out s).2⟩) (HRM11.out.below HB.out) HS1.out HS2.out (by omega))
                  have HBZ := Lib.hid (HB11.out.trans (HB.out.mono HB11.out.size))
                  clear HB
                  go_wp2_with fail
                  refine (HIS.out).mono ?_
                  rintro e17 w17 ⟨rfl, hb17⟩
                  have HBE := Lib.hid (HB0.out.trans ((HBZ.out.trans (hb17.mono HBZ.out.size)).mono HB0.out.size))
                  clear hb17 HIS
                  go_wp2_with fail
                  go_ret
                  exact ⟨rfl, HBE.out⟩
            · have HS := Lib.hid (show WdX X k0 k1 w14 from HX12.out.step hb14)
              have i1 : ¬ (at1 : Int) < (vn : Int) := by omega
              clear hb14 HOZ HB12
              go_wp2_with fail
              refine anyH_begin (S := WdX X k0 k1) (by kernel_rfl) ?_
              rw [← hw14]
              clear hw14
              refine anyH_pureG 0 (d := 93) (op := .move (.tmp 17)) (gd := none) (.int .i64 (at1 : Int)) (by rfl) (fun o ho => wanted_plain ho _) (by kernel_rfl) (by kernel_rfl) (by kernel_rfl) (fun _ _ _ h => h) (fun o ho W hW => by unfold execOp; simp only [ho]; go_simp) HS.out ?_
              simp only [Act.put, List.setIfInBounds_toArray, List.set_cons_zero, List.set_cons_succ]
              refine anyH_pureG 1 (d := 94) (op := .move (.tmp 11)) (gd := none) (.slice va vn vc) (by rfl) (fun o ho => wanted_plain ho _) (by kernel_rfl) (by kernel_rfl) (by kernel_rfl) (fun _ _ _ h => h) (fun o ho W hW => by unfold execOp; simp only [ho]; go_simp) HS.out ?_
              simp only [Act.put, List.setIfInBounds_toArray, List.set_cons_zero, List.set_cons_succ]
              refine anyH_pureG 2 (d := 95) (op := .call { callee := .builtin .len, args := #[(.tmp 94)], argTypes := #[33] }) (gd := none) (.int .i64 (vn : Int)) (by rfl) (fun o ho => wanted_plain ho _) (by kernel_rfl) (by kernel_rfl) (by kernel_rfl) (fun _ _ _ h => h) (fun o ho W hW => by unfold execOp; simp only [ho]; go_simp) HS.out ?_
              simp only [Act.put, List.setIfInBounds_toArray, List.set_cons_zero, List.set_cons_succ]
              refine anyH_pureG 3 (d := 96) (op := .binOp .lss 3 (.tmp 93) (.tmp 95) 3) (gd := none) (.bool false) (by rfl) (fun o ho => wanted_plain ho _) (by kernel_rfl) (by kernel_rfl) (by kernel_rfl) (fun _ _ _ h => h) (fun o ho W hW => by unfold execOp; simp only [ho]; go_simp) HS.out ?_
              simp only [Act.put, List.setIfInBounds_toArray, List.set_cons_zero, List.set_cons_succ]
              refine anyH_pureG 4 (d := 97) (op := .move (.tmp 96)) (gd := none) (.bool false) (by rfl) (fun o ho => wanted_plain ho _) (by kernel_rfl) (by kernel_rfl) (by kernel_rfl) (fun _ _ _ h => h) (fun o ho W hW => by unfold execOp; simp only [ho]; go_simp) HS.out ?_
              simp only [Act.put, List.setIfInBounds_toArray, List.set_cons_zero, List.set_cons_succ]
              refine anyH_skip 5 (d := 98) (op := .move (.tmp 11)) (gd := some (4, true)) (by rfl) (fun o ho => by simp only [Region.wanted, ho]; rfl) (by kernel_rfl) (by kernel_rfl) (by kernel_rfl) (fun _ _ _ h => h) HS.out ?_
              simp only [Act.put, List.setIfInBounds_toArray, List.set_cons_zero, List.set_cons_succ]
              refine anyH_skip 6 (d := 99) (op := .move (.tmp 17)) (gd := some (4, true)) (by rfl) (fun o ho => by simp only [Region.wanted, ho]; rfl) (by kernel_rfl) (by kernel_rfl) (by kernel_rfl) (fun _ _ _ h => h) HS.out ?_
              simp only [Act.put, List.setIfInBounds_toArray, List.set_cons_zero, List.set_cons_succ]
              refine anyH_skip 7 (d := 100) (op := .indexAddr 33 (.tmp 98) (.tmp 99)) (gd := some (4, true)) (by rfl) (fun o ho => by simp only [Region.wanted, ho]; rfl) (by kernel_rfl) (by kernel_rfl) (by kernel_rfl) (fun _ _ _ h => h) HS.out ?_
              simp only [Act.put, List.setIfInBounds_toArray, List.set_cons_zero, List.set_cons_succ]
              refine anyH_skip 8 (d := 101) (op := .fieldAddr 46 (.tmp 100) 0) (gd := some (4, true)) (by rfl) (fun o ho => by simp only [Region.wanted, ho]; rfl) (by kernel_rfl) (by kernel_rfl) (by kernel_rfl) (fun _ _ _ h => h) HS.out ?_
              simp only [Act.put, List.setIfInBounds_toArray, List.set_cons_zero, List.set_cons_succ]
              refine anyH_skip 9 (d := 102) (op := .load 9 (.tmp 101)) (gd := some (4, true)) (by rfl) (fun o ho => by simp only [Region.wanted, ho]; rfl) (by kernel_rfl) (by kernel_rfl) (by kernel_rfl) (fun _ _ _ h => h) HS.out ?_
              simp only [Act.put, List.setIfInBounds_toArray, List.set_cons_zero, List.set_cons_succ]
              refine anyH_skip 10 (d := 103) (op := .indexAddr 23 (.tmp 4) (.const (.int .i64 0))) (gd := some (4, true)) (by rfl) (fun o ho => by simp only [Region.wanted, ho]; rfl) (by kernel_rfl) (by kernel_rfl) (by kernel_rfl) (fun _ _ _ h => h) HS.out ?_
              simp only [Act.put, List.setIfInBounds_toArray, List.set_cons_zero, List.set_cons_succ]
              refine anyH_skip 11 (d := 104) (op := .load 9 (.tmp 103)) (gd := some (4, true)) (by rfl) (fun o ho => by simp only [Region.wanted, ho]; rfl) (by kernel_rfl) (by kernel_rfl) (by kernel_rfl) (fun _ _ _ h => h) HS.out ?_
              simp only [Act.put, List.setIfInBounds_toArray, List.set_cons_zero, List.set_cons_succ]
              refine anyH_skip 12 (d := 105) (op := .binOp .eql 9 (.tmp 102) (.tmp 104) 9) (gd := some (4, true)) (by rfl) (fun o ho => by simp only [Region.wanted, ho]; rfl) (by kernel_rfl) (by kernel_rfl) (by kernel_rfl) (fun _ _ _ h => h) HS.out ?_
              simp only [Act.put, List.setIfInBounds_toArray, List.set_cons_zero, List.set_cons_succ]
              refine anyH_pureG 13 (d := 106) (op := .pick (.tmp 97) (.tmp 105) (.const (.bool false))) (gd := none) (.bool false) (by rfl) (fun o ho => wanted_plain ho _) (by kernel_rfl) (by kernel_rfl) (by kernel_rfl) (fun _ _ _ h => h) (fun o ho W hW => by unfold execOp; simp only [ho]; go_simp) HS.out ?_
              simp only [Act.put, List.setIfInBounds_toArray, List.set_cons_zero, List.set_cons_succ]
              refine anyH_pureG 14 (d := 18) (op := .assign (.tmp 106)) (gd := none) (.bool false) (by rfl) (fun o ho => wanted_plain ho _) (by kernel_rfl) (by kernel_rfl) (by kernel_rfl) (fun _ _ _ h => h) (fun o ho W hW => by unfold execOp; simp only [ho]; go_simp) HS.out ?_
              simp only [Act.put, List.setIfInBounds_toArray, List.set_cons_zero, List.set_cons_succ]
              refine wpAnyH_done (by kernel_rfl) ?_ _
              clear HS
              go_wp2_with fail
              go_loopw [125] (fun i wr => ∃ (j : Nat) (Y : List Nat), j ≤ z.length ∧ i = .int .i64 j ∧ Hid (Own wr w11.heap.size (.slice a12 z.length c12) Y) ∧ Hid (Y.length = z.length) ∧ Hid (∀ y ∈ Y, y < 256) ∧ Hid (Below w11.heap.size w11 wr)) (fun i _ => z.length - (intOf i).toNat)
              case atStart => exact ⟨0, z, Nat.zero_le _, rfl, HO15, Lib.hid rfl, Lib.hid HZV.out.2, HB15⟩
              case round =>
                clear HO15 HB15
                obtain ⟨j, Y, hj, rfl, HO, HLZ, HY, HB⟩ := hrel
                obtain ⟨w16, rfl⟩ : ∃ w16, w16 = wr := ⟨wr, rfl⟩
                have hzl := HZV.out.1
                by_cases hjz : j < z.length
                · obtain ⟨gb, rfl, hgb⟩ : ∃ gb, a12 = some ⟨gb, 0, none⟩ ∧ w11.heap.size ≤ gb := by
                    rcases HO.out.2 with ⟨h0, h1⟩ | ⟨gb, cp, cur, hv, hgb, _⟩
                    · have := HLZ.out; omega
                    · exact ⟨gb, (Value.slice.inj hv).1, hgb⟩
                  obtain ⟨y, hy⟩ : ∃ y, y = Y.getD j 0 := ⟨_, rfl⟩
                  have hy8 : y < 256 := by rw [hy, getD_at _ _ (by rw [HLZ.out]; exact hjz)]; exact HY.out _ (List.getElem_mem _)
                  have hcell : w16.cell? ⟨gb, j, none⟩ = some (.int .u8 (y : Int)) := by rw [hy]; exact HO.out.cellqT HLZ.out j hjz
                  have hfz : w16.frozen? ⟨gb, j, none⟩ = false := (HO.out.rowT HLZ.out).frozenAt j
                  have hxo := u8_xor255T y hy8
                  have HO1 := Lib.hid (HO.out.setqT HLZ.out j (y ^^^ 255))
                  have HB1 := Lib.hid (show Below w11.heap.size w11 (w16.setCell ⟨gb, j, none⟩ (.int .u8 ((y ^^^ 255 : Nat) : Int))) from HB.out.setCell hgb _)
                  have hx8 : y ^^^ 255 < 256 := Nat.xor_lt_two_pow (n := 8) hy8 (by omega)
                  have HY1 := Lib.hid (set_byteT Y j (y ^^^ 255) HY.out hx8)
                  have HL1 := Lib.hid (show (Y.set j (y ^^^ 255)).length = z.length from by rw [List.length_set, HLZ.out])
                  obtain ⟨x, hx⟩ : ∃ x, x = y ^^^ 255 := ⟨_, rfl⟩
                  rw [← hx] at hxo HO1 HB1 HY1 HL1
                  clear hy hx hx8 HO HLZ HY HB
                  go_wp2
                  go_roundw
                  case rel => exact ⟨j + 1, Y.set j x, by omega, by go_num, HO1, HL1, HY1, HB1⟩
                  case measure => simp [intOf]; omega
                · clear HO HLZ HY
                  have HIS := Lib.hid (tis_c (c2 := vc) (HTM11.out.below HB.out) (show TRow w16 tb _ m _ from (HB.out.block tb (Array.getElem?_eq_some_iff.1 HTR11.out).1).trans HTR11.out) (by
                    obtain ⟨l0, g1, g2, g3⟩ := HTM11.out.ks
                    have := HFEW.out l0 g1 fun s hs => (g2 s).1 hs
                    omega) HKY.out (fun s => ⟨Nat.le_trans (HVV.out s).1 (by omega), (HVV.out s).2⟩) (HRM11.out.below HB.out) HS1.out HS2.out (by omega))
                  have HBZ := Lib.hid (HB11.out.trans (HB.out.mono HB11.out.size))
                  clear HB
                  go_wp2_with fail
                  refine (HIS.out).mono ?_
                  rintro e17 w17 ⟨rfl, hb17⟩
                  have HBE := Lib.hid (HB0.out.trans ((HBZ.out.trans (hb17.mono HBZ.out.size)).mono HB0.out.size))
                  clear hb17 HIS
                  go_wp2_with fail
                  go_ret
                  exact ⟨rfl, HBE.out⟩
end Go.Proofs.Ytihbgigledmliaa
