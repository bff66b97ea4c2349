/-
  A marker looks again and again: plain, and its Step.
-/
import Derived.Test.YtpppffgchgcghaaGre
namespace Go.Proofs.Ytpppffgchgcghaa
open Go.RowKit Go.Maps
set_option linter.unusedVariables false
abbrev Ms := Ds × (List Nat → Bool)
/-- so many looks -/
def itP (f : List Nat → Option Ds) : Nat → Ms → Ms
  | 0, s => s
  | n + 1, s => itP f n (lookP f s.1 s.2)
theorem itP_nil (f : List Nat → Option Ds) (b : List Nat → Bool) : ∀ n, itP f n ([], b) = ([], b)
  | 0 => rfl
  | n + 1 => itP_nil f b n
theorem itP_add (f : List Nat → Option Ds) : ∀ (m n : Nat) (s : Ms), itP f (m + n) s = itP f n (itP f m s)
  | 0, n, s => by rw [Nat.zero_add]; rfl
  | m + 1, n, s => by rw [Nat.add_right_comm]; exact itP_add f m n _
theorem itP_succ (f : List Nat → Option Ds) (n : Nat) (s : Ms) : itP f (n + 1) s = lookP f (itP f n s).1 (itP f n s).2 := by rw [itP_add]; rfl
theorem itP_done {f : List Nat → Option Ds} {m n : Nat} {s : Ms} (h : (itP f m s).1 = []) (hn : m ≤ n) : itP f n s = itP f m s := by
  obtain ⟨k, rfl⟩ := Nat.le.dest hn
  rw [itP_add]
  have e : itP f m s = ([], (itP f m s).2) := Prod.ext h rfl
  rw [e]
  exact itP_nil f _ k
theorem sum_split (g : List Nat → Nat) (p : List Nat → Bool) (d : List Nat) (hp : p d = true) : ∀ L : List (List Nat), L.Nodup → d ∈ L → ((L.filter p).map g).sum = g d + ((L.filter (fun v => p v && decide (v ≠ d))).map g).sum
  | [], _, h => by cases h
  | x :: r, hn, h => by
    obtain ⟨h1, h2⟩ := List.nodup_cons.1 hn
    by_cases e : x = d
    · subst e
      have h3 : r.filter (fun v => p v && decide (v ≠ x)) = r.filter p := List.filter_congr fun v hv => by
        have : v ≠ x := fun e => h1 (e ▸ hv)
        simp [this]
      rw [List.filter_cons_of_pos hp, List.filter_cons_of_neg (by simp), h3]
      simp
    · have hd : d ∈ r := (List.mem_cons.1 h).resolve_left fun e2 => e e2.symm
      have ih := sum_split g p d hp r h2 hd
      cases hx : p x with
      | true =>
        rw [List.filter_cons_of_pos hx, List.filter_cons_of_pos (by simp [hx, e])]
        simp only [List.map_cons, List.sum_cons]
        omega
      | false =>
        rw [List.filter_cons_of_neg (by simp [hx]), List.filter_cons_of_neg (by simp [hx])]
        exact ih
/-- how much there is left to look at, at most -/
def Bd (f : List Nat → Option Ds) (gray : Ds) (b : List Nat → Bool) (M : Nat) : Prop := ∃ L : List (List Nat), L.Nodup ∧ (∀ v, D32 v → (f v).isSome = true → v ∈ L) ∧ gray.length + ((L.filter (fun v => !b v)).map (fun v => ((f v).getD []).length)).sum ≤ M
theorem Bd.len {f : List Nat → Option Ds} {gray : Ds} {b : List Nat → Bool} {M : Nat} (h : Bd f gray b M) : gray.length ≤ M := by
  obtain ⟨L, -, -, h⟩ := h
  omega
theorem Bd.look {f : List Nat → Option Ds} {d : List Nat} {r : Ds} {b : List Nat → Bool} {M : Nat} (h : Bd f (d :: r) b M) (hd : D32 d) : 1 ≤ M ∧ Bd f (lookP f (d :: r) b).1 (lookP f (d :: r) b).2 (M - 1) := by
  obtain ⟨L, h1, h2, h3⟩ := h
  rw [List.length_cons] at h3
  refine ⟨by omega, L, h1, h2, ?_⟩
  simp only [lookP]
  cases hf : f d with
  | none =>
    simp only
    omega
  | some ts =>
    simp only
    cases hb : b d with
    | true =>
      simp only [if_true]
      omega
    | false =>
      simp only [Bool.false_eq_true, if_false]
      have hs := sum_split (fun v => ((f v).getD []).length) (fun v => !b v) d (by simp [hb]) L h1 (h2 d hd (by rw [hf]; rfl))
      have he : L.filter (fun v => !b v && decide (v ≠ d)) = L.filter (fun v => !bk b d v) := List.filter_congr fun v _ => by
        unfold bk
        by_cases e : v = d <;> simp [e]
      rw [he, hf] at hs
      simp only [Option.getD_some] at hs
      have hl : (ts.filter (fun x => !bk b d x)).length ≤ ts.length := List.length_filter_le _ _
      rw [List.length_append]
      omega
/-- a marker in memory that has so much left -/
def MK (B T : Nat) (O : Nat → Prop) (w : World) (k g : Nat) (f : List Nat → Option Ds) (s : Ms) : Prop := ∃ N M, N + M ≤ T ∧ MR B N O w k g s.1 s.2 ∧ Bd f s.1 s.2 M
theorem MK.below {B T k g : Nat} {O : Nat → Prop} {w w' : World} {f : List Nat → Option Ds} {s : Ms} (h : MK B T O w k g f s) (hb : Below w.heap.size w w') : MK B T O w' k g f s := by
  obtain ⟨N, M, h1, h2, h3⟩ := h
  exact ⟨N, M, h1, h2.below hb, h3⟩
theorem MK.fr {B T k g : Nat} {O V : Nat → Prop} {w w' : World} {f : List Nat → Option Ds} {s : Ms} (h : MK B T O w k g f s) (hf : Fr V w w') (hd : ∀ j, O j → ¬ V j) : MK B T O w' k g f s := by
  obtain ⟨N, M, h1, h2, h3⟩ := h
  exact ⟨N, M, h1, h2.fr hf hd, h3⟩
theorem MK.more {B T T' k g : Nat} {O O' : Nat → Prop} {w : World} {f : List Nat → Option Ds} {s : Ms} (h : MK B T O w k g f s) (hO : ∀ j, O j → O' j) (hb : ∀ j, O' j → B ≤ j ∧ j < w.heap.size) (hT : T ≤ T') : MK B T' O' w k g f s := by
  obtain ⟨N, M, h1, h2, h3⟩ := h
  exact ⟨N, M, by omega, h2.more hO hb (Nat.le_refl _), h3⟩
theorem mk_look {B T B2 N2 k g : Nat} {O V : Nat → Prop} {w : World} {f : List Nat → Option Ds} {d : List Nat} {r : Ds} {b : List Nat → Bool} (h : MK B T O w k g f (d :: r, b)) (hG : GR B2 N2 V w g f) (hVO : ∀ j, V j → ¬ O j) (hB : B ≤ w.heap.size) (hT : T ≤ 100000000) (hfl : ∀ s ts, f s = some ts → ts.length ≤ 1000000) :
    Calls Try.prog 42 #[.pointer (some ⟨k, 0, none⟩)] w fun e w' => e = .returned (.tuple #[]) ∧ MK B T (ext O w w') w' k g f (lookP f (d :: r) b) ∧ Fr O w w' := by
  obtain ⟨N, M, h1, h2, h3⟩ := h
  have hl := h3.len
  rw [List.length_cons] at hl
  obtain ⟨h4, h5⟩ := h3.look (h2.d32 d (List.mem_cons_self ..))
  refine (look_c h2 hG hVO hB (by omega) (by omega) hfl).mono ?_
  rintro e w' ⟨rfl, hm, hf⟩
  exact ⟨rfl, ⟨N + 1, M - 1, by omega, hm, h5⟩, hf⟩
/-- in the middle of Step -/
def StI (B T k g : Nat) (O : Nat → Prop) (w : World) (f : List Nat → Option Ds) (s : Ms) (j : Nat) (wr : World) : Prop := MK B T (ext O w wr) wr k g f (itP f j s) ∧ Fr O w wr
set_option maxRecDepth 100000 in
set_option maxHeartbeats 8000000 in
theorem step_c {B T B2 N2 k g : Nat} {O V : Nat → Prop} {w : World} {f : List Nat → Option Ds} {s : Ms} (h : MK B T O w k g f s) (hG : GR B2 N2 V w g f) (hVO : ∀ j, V j → ¬ O j) (hB : B ≤ w.heap.size) (hT : T ≤ 100000000) (hfl : ∀ s ts, f s = some ts → ts.length ≤ 1000000) (n : Int) (hn : -9223372036854775808 ≤ n ∧ n ≤ 9223372036854775807) :
    Calls Try.prog 29 #[.pointer (some ⟨k, 0, none⟩), .int .i64 n] w fun e w' => e = .returned (.bool (decide ((itP f n.toNat s).1.length = 0))) ∧ MK B T (ext O w w') w' k g f (itP f n.toNat s) ∧ Fr O w w' := by
  have hob : ∀ j, O j → B ≤ j ∧ j < w.heap.size := by obtain ⟨N, M, -, h2, -⟩ := h; exact h2.ob
  have HP0 := Lib.hid (show StI B T k g O w f s 0 w from ⟨h.more (fun j hj => .inl hj) (ext_ob hob hB (Nat.le_refl _)) (Nat.le_refl _), Fr.refl _ _⟩)
  have HG := Lib.hid hG
  have HVO := Lib.hid hVO
  have HBB := Lib.hid hB
  have HT := Lib.hid hT
  have HFL := Lib.hid hfl
  have HOB := Lib.hid hob
  clear h hG hVO hB hT hfl hob
  go_enter Try.func29, Try.ntmps29
  go_wp2_with fail
  go_loopw [1] (fun i wr => ∃ j : Nat, (j : Int) ≤ max n 0 ∧ i = .int .i64 (n - j) ∧ Hid (StI B T k g O w f s j wr)) (fun i _ => (intOf i).toNat)
  case atStart => exact ⟨0, by omega, by simp, HP0⟩
  case round =>
    clear HP0
    obtain ⟨j, hj, rfl, HP⟩ := hrel
    obtain ⟨z, hz⟩ : ∃ z : Int, z = n - (j : Int) := ⟨_, rfl⟩
    rw [← hz]
    have hzb : -9223372036854775808 ≤ z ∧ z ≤ 9223372036854775807 := by omega
    have HZ := Lib.hid hz
    have HJ := Lib.hid hj
    have HNB := Lib.hid hn
    obtain ⟨N, M, hNM, hmr, hbd⟩ := HP.out.1
    have HLT := Lib.hid (left_c hmr)
    obtain ⟨gr, hgr⟩ : ∃ gr, gr = (itP f j s).1 := ⟨_, rfl⟩
    rw [← hgr] at HLT
    have HGR := Lib.hid hgr
    obtain ⟨nl, hnl⟩ : ∃ nl, nl = gr.length := ⟨_, rfl⟩
    have hnlb : nl ≤ 100000000 := by rw [hnl, hgr]; have := hbd.len; have := HT.out; omega
    rw [← hnl] at HLT
    have HNL := Lib.hid hnl
    clear hz hj hn hmr hbd hNM hgr hnl
    by_cases hz0 : 0 < z
    · by_cases hl0 : nl = 0
      · subst hl0
        have HFIN := Lib.hid (show StI B T k g O w f s n.toNat wr ∧ (itP f n.toNat s).1.length = 0 from by
          have e0 : (itP f j s).1 = [] := by rw [← HGR.out]; exact List.eq_nil_of_length_eq_zero HNL.out.symm
          have e1 : itP f n.toNat s = itP f j s := itP_done e0 (by have h1 := HJ.out; have h2 := HZ.out; omega)
          exact ⟨by unfold StI; rw [e1]; exact HP.out, by rw [e1, e0]; rfl⟩)
        go_wp2_with fail
        refine HLT.out.mono ?_
        rintro e1 w1 ⟨rfl, rfl⟩
        go_wp2_with fail
        refine HLT.out.mono ?_
        rintro e2 w2 ⟨rfl, rfl⟩
        go_wp2_with fail
        go_ret
        rw [HFIN.out.2]
        exact ⟨rfl, HFIN.out.1.1, HFIN.out.1.2⟩
      · have hl1 : 1 ≤ nl := by omega
        obtain ⟨d, r, hdr⟩ : ∃ d r, gr = d :: r := by
          cases hg : gr with
          | nil => have := HNL.out; rw [hg] at this; simp at this; omega
          | cons d r => exact ⟨d, r, rfl⟩
        have HLK := Lib.hid (mk_look (d := d) (r := r) (b := (itP f j s).2) (show MK B T (ext O w wr) wr k g f (d :: r, (itP f j s).2) from by rw [← hdr, HGR.out]; exact HP.out.1) (HG.out.fr HP.out.2 HVO.out) (fun i hv hi => by
          rcases hi with hi | hi
          · exact HVO.out i hv hi
          · have := (HG.out.vb i hv).2
            omega) (Nat.le_trans HBB.out HP.out.2.size) HT.out HFL.out)
        have HDR := Lib.hid hdr
        clear hdr hl0
        go_wp2_with fail
        refine HLT.out.mono ?_
        rintro e1 w1 ⟨rfl, rfl⟩
        go_wp2_with fail
        refine HLK.out.mono ?_
        rintro e2 w2 ⟨rfl, hmk, hfr⟩
        have HPN := Lib.hid (show StI B T k g O w f s (j + 1) w2 from by
          have e0 : itP f (j + 1) s = lookP f (d :: r) (itP f j s).2 := by rw [itP_succ, ← HGR.out, HDR.out]
          have hf2 : Fr O w w2 := HP.out.2.trans hfr fun i hi e => ext_old i hi e
          refine ⟨?_, hf2⟩
          rw [e0]
          exact hmk.more (ext_ext HP.out.2.size hfr.size) (ext_ob HOB.out HBB.out hf2.size) (Nat.le_refl _))
        clear HLT HLK hmk hfr
        go_wp2_with fail
        go_roundw
        case rel => exact ⟨j + 1, by have h1 := HJ.out; have h2 := HZ.out; omega, by have h2 := HZ.out; go_num, HPN⟩
        case measure => simp [intOf]; omega
    · have HFIN := Lib.hid (show StI B T k g O w f s n.toNat wr from by
        have e1 : n.toNat = j := by have h1 := HJ.out; have h2 := HZ.out; omega
        rw [e1]
        exact HP.out)
      have HLE := Lib.hid (show nl = (itP f n.toNat s).1.length from by
        have e1 : n.toNat = j := by have h1 := HJ.out; have h2 := HZ.out; omega
        rw [e1, HNL.out, HGR.out])
      have hz1 : z ≤ 0 := by omega
      clear hz0
      go_wp2_with fail
      refine HLT.out.mono ?_
      rintro e2 w2 ⟨rfl, rfl⟩
      go_wp2_with fail
      go_ret
      rw [← HLE.out]
      refine ⟨?_, HFIN.out.1, HFIN.out.2⟩
      show Ending.returned (.bool ((nl : Int) == 0)) = _
      by_cases e : nl = 0
      · subst e; rfl
      · simp [e]
end Go.Proofs.Ytpppffgchgcghaa
