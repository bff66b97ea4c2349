/-
  The walk over the statement of records of which one byte is another one.
-/
import Derived.Test.YtjpcbmfnjifgfaaJtb
import Derived.Test.YtjpcbmfnjifgfaaJsc
import Derived.Test.YtjpcbmfnjifgfaaJna
namespace Go.Proofs.Ytjpcbmfnjifgfaa
open Go.RowKit
set_option linter.unusedVariables false
def endsF (ps : List (List Nat)) (k : Nat) : List Nat := (List.range k).map fun j => (Frm.flatF (ps.take (j + 1))).length
theorem ends_succ (ps : List (List Nat)) (k : Nat) : endsF ps (k + 1) = endsF ps k ++ [(Frm.flatF (ps.take (k + 1))).length] := by simp [endsF, List.range_succ]
theorem ends_len (ps : List (List Nat)) (k : Nat) : (endsF ps k).length = k := by simp [endsF]
theorem ends_get (ps : List (List Nat)) (k j : Nat) (h : j < k) : (endsF ps k).getD j 0 = (Frm.flatF (ps.take (j + 1))).length := by simp [endsF, h]
theorem own_two' {w : World} {B B' : Nat} {v v' : Value} {zs ns : List Nat} (h : Own w B v zs) (h' : OwnI w B' v' ns) : v.ownBlock = none ∨ v.ownBlock ≠ v'.ownBlock := by
  rcases own_two h h' with e | e
  · by_cases e2 : v.ownBlock = none
    · exact .inl e2
    · exact .inr fun e3 => e2 (by rw [e3, e])
  · exact .inr fun e3 => e e3.symm
theorem OwnI.keep {w w' : World} {B : Nat} {v : Value} {ns : List Nat} (h : OwnI w B v ns) (hb : Below w.heap.size w w') : OwnI w' B v ns := by
  refine ⟨h.1, ?_⟩
  rcases h.2 with h0 | ⟨g, cap, cur, h1, h2, h3, h4⟩
  · exact .inl h0
  · exact .inr ⟨g, cap, cur, h1, h2, (hb.block g (Array.getElem?_eq_some_iff.1 h3).1).trans h3, h4⟩
structure TnW (w : World) (ps : List (List Nat)) (k : Nat) (vb ve : Value) (W : World) : Prop where
  ownB : Own W w.heap.size vb (Frm.flatF (ps.take k))
  ownE : OwnI W w.heap.size ve (endsF ps k)
  below : Below w.heap.size w W
theorem TnW.step {w W W' : World} {ps : List (List Nat)} {k : Nat} {vb ve : Value} (h : TnW w ps k vb ve W) (hb : Below W.heap.size W W') : TnW w ps k vb ve W' := ⟨h.ownB.keep hb, h.ownE.keep hb, h.below.trans (hb.mono h.below.size)⟩
theorem bss_row {W : World} {a : Option Addr} {len cap : Nat} {L : List Sl} (h : BssIn W a len cap L) : RowRd W a len (L.map slz) := by
  obtain ⟨h1, h2, h3, h4, h5, h6⟩ := h
  refine ⟨by rw [List.length_map]; exact h1, h5.imp id ?_⟩
  rintro ⟨b, off, ha, hlt, hc⟩
  refine ⟨b, off, ha, fun i p hp => ?_⟩
  rw [List.getElem?_map] at hp
  cases hL : L[i]? with
  | none => rw [hL] at hp; cases hp
  | some s =>
    rw [hL] at hp
    cases hp
    have hs := h6 s (List.mem_of_getElem? hL)
    exact ⟨s.1, s.2.1, s.2.2.1, hc i s hL, hs.1, by have := hs.2.2; omega⟩
theorem recs_row {W : World} {B : Nat} {a : Option Addr} {n c : Nat} {vs : List Value} {gs : List Nat} {ps : List (List Nat)} (ho : OwnV W B (.slice a n c) vs) (hr : Rcs B W vs gs ps) : RowRd W a n ps ∧ n ≤ c ∧ ps.length = n := by
  obtain ⟨a', n', c', hv, hl, hnc, hcm, hc⟩ := ho.form
  obtain ⟨e1, e2, e3⟩ := Value.slice.inj hv
  subst e1 e2 e3
  have hpl : ps.length = n := by rw [← hr.lv, hl]
  refine ⟨⟨hpl, hc.imp id ?_⟩, hnc, hpl⟩
  rintro ⟨g, ha, _, _, hcell⟩
  refine ⟨g, 0, ha, fun i p hp => ?_⟩
  have hi := (List.getElem?_eq_some_iff.1 hp).1
  have h1 := hr.lv
  have h2 := hr.lg
  have hvi : vs[i]? = some vs[i] := List.getElem?_eq_getElem (by omega)
  obtain ⟨_, hrc⟩ := hr.rc i vs[i] gs[i] p hvi (List.getElem?_eq_getElem (by omega)) hp
  obtain ⟨x, cx, he, _, hm, _, hrd, _⟩ := hrc.rd
  refine ⟨x, p.length, cx, ?_, hrd, by omega⟩
  rw [Nat.zero_add, hcell i _ hvi, he]
theorem own_row {w : World} {B gb L cap : Nat} {Y : List Nat} (h : Own w B (.slice (some ⟨gb, 0, none⟩) L cap) Y) (hl : Y.length = L) : w.ownsRow B 5 1 (.slice (some ⟨gb, 0, none⟩) L cap) L (cellsOf Y) := by
  subst hl; exact h
theorem own_cellq {w : World} {B gb L cap : Nat} {Y : List Nat} (h : Own w B (.slice (some ⟨gb, 0, none⟩) L cap) Y) (hl : Y.length = L) (k : Nat) (hk : k < L) : w.cell? ⟨gb, k, none⟩ = some (.int .u8 ((Y.getD k 0 : Nat) : Int)) := by
  rw [(own_row h hl).cellAt k (by omega)]
  exact cellsOf_get Y k (by omega)
theorem own_setq {w : World} {B gb L cap : Nat} {Y : List Nat} (h : Own w B (.slice (some ⟨gb, 0, none⟩) L cap) Y) (hl : Y.length = L) (k x : Nat) : Own (w.setCell ⟨gb, k, none⟩ (.int .u8 (x : Int))) B (.slice (some ⟨gb, 0, none⟩) L cap) (Y.set k x) ∧ w.grownBy (w.setCell ⟨gb, k, none⟩ (.int .u8 (x : Int))) (some gb) := by
  obtain ⟨h1, h2⟩ := (own_row h hl).stored k (.int .u8 (x : Int))
  refine ⟨?_, h2⟩
  unfold Own
  rw [List.length_set, hl, show cellsOf (Y.set k x) = (cellsOf Y).set k (.int .u8 (x : Int)) by simp [cellsOf, List.map_set]]
  exact h1
theorem wrapsM (z : Int) (n : Nat) (h0 : 0 < n) (hn : n ≤ 1000000000) : IntKind.u64.wrap (n : Int) = (n : Int) ∧ ¬ ((n : Int) = 0) ∧ ∃ q : Nat, q < n ∧ wrap64 ((IntKind.u64.wrap z).tmod (n : Int)) = (q : Int) := by
  have e : IntKind.u64.wrap (n : Int) = (n : Int) := by simp [IntKind.wrap, IntKind.bits, IntKind.signed]; omega
  refine ⟨e, by omega, ?_⟩
  have h1 : 0 ≤ IntKind.u64.wrap z := by simp [IntKind.wrap, IntKind.bits, IntKind.signed]; omega
  obtain ⟨t, ht⟩ := Int.eq_ofNat_of_zero_le h1
  rw [ht]
  have h2 : ((t : Int)).tmod (n : Int) = ((t % n : Nat) : Int) := by rw [Int.ofNat_tmod]
  have h3 := Nat.mod_lt t h0
  refine ⟨t % n, h3, ?_⟩
  rw [h2]
  unfold wrap64
  omega
set_option maxRecDepth 100000 in
set_option maxHeartbeats 4000000 in
theorem jturns_c (a : Option Addr) (len cap : Nat) (L : List Sl) (at_ : Int) (tn : Nat) (w : World) (h : BssIn w a len cap L) (htn : tn < 256) :
    Calls Try.prog 11 #[.slice a len cap, .int .i64 at_, .int .u8 (tn : Int)] w fun e w' => e = .returned (.bool true) ∧ Below w.heap.size w w' := by
  have HBS := Lib.hid h
  have HAW := Lib.hid (fun W => awake10_c W)
  clear h
  go_enter Try.func11, Try.ntmps11
  go_wp2_with fail
  refine (HAW.out _).mono ?_
  rintro e1 w1 ⟨rfl, hb1⟩
  have HB1 := Lib.hid hb1
  have HSM := Lib.hid (small_c a len cap L w1 (HBS.out.below hb1))
  clear hb1
  by_cases h0 : tn = 0
  · have i0 : (tn : Int) = 0 := by omega
    clear h0
    go_wp2_with fail
    refine HSM.out.mono ?_
    rintro e2 w2 ⟨r, rfl, rfl, hr⟩
    clear hr
    cases r
    · go_wp2_with fail
      refine (HAW.out _).mono ?_
      rintro e3 w3 ⟨rfl, hb3⟩
      have HB3 := Lib.hid (HB1.out.trans (hb3.mono HB1.out.size))
      clear hb3
      go_wp2_with fail
      go_ret
      exact ⟨rfl, HB3.out⟩
    · go_wp2_with fail
      refine (HAW.out _).mono ?_
      rintro e3 w3 ⟨rfl, hb3⟩
      have HB3 := Lib.hid (HB1.out.trans (hb3.mono HB1.out.size))
      clear hb3
      go_wp2_with fail
      go_ret
      exact ⟨rfl, HB3.out⟩
  · have i0 : ((tn : Int) == 0) = false := by rw [beq_eq_false_iff_ne]; omega
    have HTN := Lib.hid h0
    clear h0
    go_wp2_with fail
    refine HSM.out.mono ?_
    rintro e2 w2 ⟨r, rfl, rfl, hr⟩
    have HSR := Lib.hid hr
    clear hr HSM
    cases r
    · clear HSR
      go_wp2_with fail
      refine (HAW.out _).mono ?_
      rintro e3 w3 ⟨rfl, hb3⟩
      have HB3 := Lib.hid (HB1.out.trans (hb3.mono HB1.out.size))
      clear hb3
      go_wp2_with fail
      go_ret
      exact ⟨rfl, HB3.out⟩
    · obtain ⟨hl12, hl400⟩ := HSR.out rfl
      have H400 := Lib.hid hl400
      clear hl400 HSR HAW
      obtain ⟨ps, hps⟩ : ∃ ps, ps = L.map slz := ⟨_, rfl⟩
      have HPS := Lib.hid hps
      have HPL := Lib.hid (show ps.length = len from by rw [hps, List.length_map]; exact HBS.out.1)
      have HPB := Lib.hid (show ∀ p ∈ ps, ∀ z ∈ p, z < 256 from fun p hp => by
        rw [hps] at hp
        obtain ⟨s, hs, rfl⟩ := List.mem_map.1 hp
        exact (HBS.out.2.2.2.2.2 s hs).1.2.1)
      have HP4 := Lib.hid (show ∀ p ∈ ps, p.length ≤ 400 from fun p hp => by
        rw [hps] at hp
        obtain ⟨s, hs, rfl⟩ := List.mem_map.1 hp
        have h1 := (HBS.out.2.2.2.2.2 s hs).1.1
        have h2 := H400.out s hs
        show s.2.2.2.length ≤ 400
        omega)
      have HFL := Lib.hid (show ∀ k, (Frm.flatF (ps.take k)).length ≤ 4896 from fun k => by
        have h1 := Frm.flat_len (ps.take k) (fun p hp => HP4.out p (List.mem_of_mem_take hp))
        have h2 : (ps.take k).length ≤ 12 := by rw [List.length_take, HPL.out]; omega
        omega)
      have HST : Hid (TnW w ps 0 (.slice none 0 0) (.slice none 0 0) w2) := Lib.hid ⟨by simpa [Frm.flatF] using Own.nil w2 w.heap.size, by simpa [endsF] using OwnI.nil w2 w.heap.size, HB1.out⟩
      clear hps H400
      go_wp2_with fail
      go_loopw [7, 8, 29] (fun vb ve i wr => ∃ k : Nat, k ≤ len ∧ i = .int .i64 k ∧ Hid (TnW w ps k vb ve wr)) (fun _ _ i _ => len - (intOf i).toNat)
      case atStart => exact ⟨0, Nat.zero_le _, rfl, HST⟩
      case round =>
        clear HST
        obtain ⟨k, hk, rfl, HW⟩ := hrel
        by_cases hkl : k < len
        · obtain ⟨s, hs⟩ : ∃ s, L[k]? = some s := ⟨_, List.getElem?_eq_getElem (by rw [HBS.out.1]; exact hkl)⟩
          have hpk : ps[k]? = some (slz s) := by rw [HPS.out, List.getElem?_map, hs]; rfl
          have hbw := HBS.out.below HW.out.below
          obtain ⟨bb, off, rfl, hblt, hcells⟩ := hbw.2.2.2.2.1.resolve_left (by omega)
          have hc := hcells k s hs
          have hsb := hbw.2.2.2.2.2 s (List.mem_of_getElem? hs)
          have hp4 := HP4.out _ (List.mem_of_getElem? hpk)
          have hpb := HPB.out _ (List.mem_of_getElem? hpk)
          obtain ⟨xa, n, xc, p⟩ := s
          simp only [slv] at hc
          simp only [slz] at hpk hp4 hpb
          have hn4 : n ≤ 400 := by have := hsb.1.1; simp only at this; omega
          have HFR := Lib.hid ((frame_c xa n xc p wr hsb.1 hsb.2.1 (by omega)).mono (RetB.form (Frm.frame_byte p hpb)))
          have HSN := Lib.hid (Frm.flat_snoc ps k p hpk)
          have HFB := Lib.hid (Frm.flat_byte (ps.take (k + 1)) (fun q hq => HPB.out q (List.mem_of_mem_take hq)))
          clear hs hpk hbw hcells hsb hp4 hpb
          go_wp2_with fail
          refine HFR.out.mono ?_
          rintro e3 w3 ⟨a3, L3, c3, rfl, hl3, hlc3, hcm3, hn3, hr3, ho3, hb3⟩
          have HW3 := Lib.hid (HW.out.step hb3)
          have HR3 := Lib.hid hr3
          have hpos : 0 < L3 := by rw [← hl3, Frm.frame_len]; omega
          have HLE := Lib.hid (show (Frm.flatF (ps.take k)).length + (Frm.frameL p).length ≤ 140737488355328 from by
            have := HFL.out (k + 1)
            rw [HSN.out, List.length_append] at this
            omega)
          have hsz := HW3.out.below.size
          clear hl3 hlc3 hcm3 hn3 hr3 ho3 hb3 HW HFR
          go_upto_region 9 with (at_builtin; (refine wpList_catG rfl (.tmp 33) (.tmp 35) rfl w.heap.size u7 (Frm.flatF (ps.take k)) (Frm.frameL p) rfl HW3.out.ownB hsz a3 L3 c3 rfl HR3.out hpos HLE.out ?_); intro v4 w4 g1 g2; have HO4 := Lib.hid (show Own w4 w.heap.size v4 (Frm.flatF (ps.take (k + 1))) from by rw [HSN.out]; exact g1); have HE4 := Lib.hid (World.ownsRow.kept HW3.out.ownE g2 (own_two HW3.out.ownB HW3.out.ownE)); have HB4 := Lib.hid (HW3.out.below.grown g2 hsz (fun q hq => (World.ownsRow.lt HW3.out.ownB q hq).1)); clear g1 g2)
          obtain ⟨a4, L4, c4, rfl, hl4, _, _, _, _, _⟩ := HO4.out.form HFB.out
          have HEL : Hid (L4 = (Frm.flatF (ps.take (k + 1))).length) := Lib.hid hl4.symm
          have hsz4 := HB4.out.size
          have hel : (endsF ps k).length + 1 ≤ 1000000000 := by rw [ends_len]; omega
          clear hl4 HW3 HR3
          go_wp2_with (at_builtin; (refine wpList_pushI rfl (.tmp 37) (.tmp 40) rfl w.heap.size u8 (endsF ps k) L4 _ rfl rfl HE4.out hsz4 rfl hel ?_); intro v5 w5 g1 g2; have HO5 := Lib.hid (World.ownsRow.kept (World.ownsRow.alloc HO4.out (.cells #[.int .i64 (L4 : Int)] 3)) g2 (own_two' (World.ownsRow.alloc HO4.out (.cells #[.int .i64 (L4 : Int)] 3)) (World.ownsRow.alloc HE4.out (.cells #[.int .i64 (L4 : Int)] 3)))); have HE5 := Lib.hid (show OwnI w5 w.heap.size v5 (endsF ps (k + 1)) from by rw [ends_succ, ← HEL.out]; exact g1); have HB5 := Lib.hid ((HB4.out.alloc (Nat.le_trans (Nat.le_refl _) hsz4) (.cells #[.int .i64 (L4 : Int)] 3)).grown g2 (by simp; omega) (fun q hq => (World.ownsRow.lt HE4.out q hq).1)); clear g1 g2)
          have HN := Lib.hid (show TnW w ps (k + 1) (.slice a4 L4 c4) v5 w5 from ⟨HO5.out, HE5.out, HB5.out⟩)
          clear HO5 HE5 HB5 HO4 HE4 HB4
          go_roundw
          case rel => exact ⟨k + 1, by omega, by go_num, HN⟩
          case measure => simp [intOf]; omega
        · obtain rfl : k = len := by omega
          have HW0 := Lib.hid (show Own wr w.heap.size u7 (Frm.flatF ps) ∧ OwnI wr w.heap.size u8 (endsF ps k) ∧ Below w.heap.size w wr from by
            have h := HW.out.ownB
            rw [List.take_of_length_le (by rw [HPL.out]; exact Nat.le_refl _)] at h
            exact ⟨h, HW.out.ownE, HW.out.below⟩)
          have HFB := Lib.hid (Frm.flat_byte ps HPB.out)
          have hN := HFL.out k
          rw [List.take_of_length_le (by rw [HPL.out]; exact Nat.le_refl _)] at hN
          obtain ⟨Z, hZ⟩ : ∃ Z, Z = Frm.flatF ps := ⟨_, rfl⟩
          have HZ := Lib.hid hZ
          rw [← hZ] at HW0 HFB hN
          clear HW hZ
          obtain ⟨ab, N, cb, rfl, hNl, hNc, hcb, hnb, hrb, hob⟩ := HW0.out.1.form HFB.out
          obtain ⟨ae, k', ce, rfl, hel, hec, hce, hecells⟩ := HW0.out.2.1.form
          obtain rfl : k = k' := by rw [← hel, ends_len]
          have HECS := Lib.hid hecells
          have HNL := Lib.hid hNl
          have hN5 : N ≤ 4896 := by omega
          have HOB := Lib.hid hob
          have HOE := Lib.hid HW0.out.2.1
          have HBW := Lib.hid HW0.out.2.2
          clear hel hecells hNl hrb hob HW0 hN
          by_cases hN0 : N = 0
          · have j0 : ((N : Int) == 0) = true := by rw [beq_iff_eq]; omega
            go_wp2_with fail
            go_ret
            exact ⟨rfl, HBW.out⟩
          · have j0 : ((N : Int) == 0) = false := by rw [beq_eq_false_iff_ne]; omega
            obtain ⟨q1, q2, t, htN, q3⟩ := wrapsM at_ N (by omega) (by omega)
            have hk0 : 0 < k := by
              by_cases e : k = 0
              · exfalso
                apply hN0
                rw [← HNL.out, HZ.out]
                have : ps = [] := List.eq_nil_of_length_eq_zero (by rw [HPL.out]; exact e)
                rw [this]; rfl
              · omega
            obtain ⟨ge, rfl, hgeB, hgelt, hecs⟩ := HECS.out.resolve_left (by omega)
            have hsome : ∃ gb, ab = some ⟨gb, 0, none⟩ ∧ w.heap.size ≤ gb := by
              rcases HOB.out.2 with ⟨e, _⟩ | ⟨g, c, cur, e, hb, _⟩
              · have := (Value.slice.inj e).2.1; omega
              · exact ⟨g, (Value.slice.inj e).1, hb⟩
            obtain ⟨gb, rfl, hgb⟩ := hsome
            have HEC := Lib.hid (show ∀ i, i < k → wr.cell? ⟨ge, i, none⟩ = some (.int .i64 (((Frm.flatF (ps.take (i + 1))).length : Nat) : Int)) from fun i hi => by rw [hecs i hi, ends_get ps k i hi])
            have HEK := Lib.hid (show (Frm.flatF (ps.take (k - 1 + 1))).length = N from by rw [show k - 1 + 1 = k by omega, List.take_of_length_le (by rw [HPL.out]; exact Nat.le_refl _), ← HZ.out, HNL.out])
            obtain ⟨wz, hwz⟩ : ∃ wz, wz = wr := ⟨_, rfl⟩
            subst hwz
            clear hecs HECS HFL hnb hec hce
            go_wp2_with fail
            go_loopw [11] (fun i wr => ∃ h : Nat, h < k ∧ i = .int .i64 h ∧ Hid (∀ j, j < h → (Frm.flatF (ps.take (j + 1))).length ≤ t) ∧ wz = wr) (fun i _ => k - (intOf i).toNat)
            case atStart => exact ⟨0, hk0, rfl, Lib.hid fun j hj => absurd hj (Nat.not_lt_zero _), rfl⟩
            case round =>
              obtain ⟨h, hh, rfl, HJ, rfl⟩ := hrel
              have hc := HEC.out h hh
              obtain ⟨Eh, hEh⟩ : ∃ Eh, Eh = (Frm.flatF (ps.take (h + 1))).length := ⟨_, rfl⟩
              rw [← hEh] at hc
              have HEH := Lib.hid hEh
              clear hEh
              by_cases hle : Eh ≤ t
              · have hh2 : h + 1 < k := by
                  by_cases e : h = k - 1
                  · have h1 := HEK.out
                    rw [← e, ← HEH.out] at h1
                    omega
                  · omega
                have HJ2 := Lib.hid (show ∀ j, j < h + 1 → (Frm.flatF (ps.take (j + 1))).length ≤ t from fun j hj => by
                  by_cases e : j = h
                  · rw [e, ← HEH.out]; exact hle
                  · exact HJ.out j (by omega))
                clear HJ
                go_wp2_with fail
                go_roundw
                case rel => exact ⟨h + 1, by omega, by go_num, HJ2, by first | trivial | rfl⟩
                case measure => simp [intOf]; omega
              · obtain ⟨x, hx⟩ : ∃ x, x = Z.getD t 0 := ⟨_, rfl⟩
                have hcx : wz.cell? ⟨gb, t, none⟩ = some (.int .u8 (x : Int)) := by rw [hx]; exact own_cellq HOB.out HNL.out t htN
                have hx256 : x < 256 := by
                  rw [hx, getD_at Z t (by rw [HNL.out]; exact htN)]
                  exact HFB.out _ (List.getElem_mem _)
                have hxor : bits .xor .u8 (x : Int) (tn : Int) = ((x ^^^ tn : Nat) : Int) := u8_xor_nat x tn hx256 htn
                obtain ⟨y, hy⟩ : ∃ y, y = x ^^^ tn := ⟨_, rfl⟩
                rw [← hy] at hxor
                have hy256 : y < 256 := by rw [hy]; exact Frm.xor_lt x tn hx256 htn
                have hxy : Z.getD t 0 ≠ y := by rw [← hx, hy]; exact Frm.xor_ne x tn HTN.out
                have hfz : wz.frozen? ⟨gb, t, none⟩ = false := World.ownsRow.frozenAt (own_row HOB.out HNL.out) t
                obtain ⟨s1, s2⟩ := own_setq HOB.out HNL.out t y
                have HE5 := Lib.hid (show OwnI (wz.setCell ⟨gb, t, none⟩ (.int .u8 (y : Int))) w.heap.size (.slice (some ⟨ge, 0, none⟩) k ce) (endsF ps k) from World.ownsRow.kept HOE.out s2 (own_two HOB.out HOE.out))
                have HB5 := Lib.hid (HBW.out.setCell (p := ⟨gb, t, none⟩) hgb (.int .u8 (y : Int)))
                obtain ⟨_, hpk⟩ : ∃ p, ps[h]? = some p := ⟨_, List.getElem?_eq_getElem (by rw [HPL.out]; exact hh)⟩
                have hfrom : (Frm.flatF (ps.take h)).length ≤ t := by
                  by_cases e : h = 0
                  · rw [e]; simp [Frm.flatF]
                  · have := HJ.out (h - 1) (by omega)
                    rwa [show h - 1 + 1 = h by omega] at this
                have htz := Frm.turned ps HPB.out (fun p hp => by have := HP4.out p hp; omega) h t y _ hpk hfrom (by rw [← HEH.out]; omega) hy256 (by rw [← HZ.out]; exact hxy)
                rw [← HZ.out] at htz
                have HTZ := Lib.hid htz
                have HS5 : Hid (Rd (wz.setCell ⟨gb, t, none⟩ (.int .u8 (y : Int))) (some ⟨gb, 0, none⟩) N (Z.set t y)) := by
                  have hbz : ∀ z ∈ Z.set t y, z < 256 := fun z hz => (List.mem_or_eq_of_mem_set hz).elim (HFB.out z) (fun e => e ▸ hy256)
                  obtain ⟨a', c', hv, _, _, hrd⟩ := s1.rd hbz
                  rw [List.length_set, HNL.out] at hrd hv
                  cases hv
                  exact Lib.hid hrd
                have HSC := Lib.hid (scan_c (some ⟨gb, 0, none⟩) N cb (Z.set t y) _ HS5.out hNc (by omega) hcb)
                obtain ⟨F, hF⟩ : ∃ F, F = (Frm.flatF (ps.take h)).length := ⟨_, rfl⟩
                have HF := Lib.hid hF
                rw [← hF] at hfrom
                have i5 : (0 : Int) ≤ (t : Int) := by omega
                have i6 : (t : Int) < (N : Int) := by omega
                have hhl : h ≤ cap := by have := HBS.out.2.2.1; omega
                have kR := fun W => run_vheadAt W a k cap h hhl
                clear hx hy hy256 hxy s1 s2 hpk htz hF HJ HEC HEK HOB HOE HBW HFB HP4
                go_wp2_with fail
                refine HSC.out.mono ?_
                rintro e6 w6 ⟨v6, vs, gs, rfl, hov, hrs, hb6⟩
                obtain ⟨more, hm1, hm2⟩ := HTZ.out
                obtain ⟨qs, hqs⟩ : ∃ qs, qs = (Frm.scanL (Z.set t y)).1 := ⟨_, rfl⟩
                rw [← hqs] at hrs hm1
                obtain ⟨U, hU⟩ : ∃ U, U = (Frm.scanL (Z.set t y)).2 := ⟨_, rfl⟩
                rw [← hU]
                obtain ⟨av, m, cv, rfl, _, _, hcv, _⟩ := hov.form
                obtain ⟨hrow, hmc, hqm⟩ := recs_row hov hrs
                have hb6' := HB5.out.trans (hb6.mono HB5.out.size)
                have HRW := Lib.hid ((bss_row (HBS.out.below hb6')).take h (by omega))
                rw [← HPS.out] at HRW
                have HE6 := HE5.out.keep hb6
                obtain ⟨ae6, n6, ce6, hv6, hn6, _, _, hc6⟩ := HE6.form
                obtain ⟨f1, f2, f3⟩ := Value.slice.inj hv6
                subst f1 f2 f3
                obtain ⟨g6, hg6, _, _, hc6⟩ := hc6.resolve_left (by omega)
                cases hg6
                have HC6 := Lib.hid hc6
                have hqh : (ps.take h).length = h := by rw [List.length_take, HPL.out]; omega
                have hqlen : m = h + more.length := by rw [← hqm, hm1, List.length_append, hqh]
                have hm5 : m ≤ 4611686018427387904 := by
                  have h1 := Frm.scan_le _ (Z.set t y) (Nat.le_refl _)
                  have h2 := Frm.scan_cnt _ (Z.set t y) (Nat.le_refl _)
                  rw [← hqs, List.length_set, HNL.out] at h2
                  omega
                have HBG := Lib.hid (begins_c a av h cap m cv (ps.take h) qs w6 HRW.out hrow hmc hm5 ⟨more, hm1⟩)
                have HB6 := Lib.hid hb6'
                have HMM := Lib.hid (show 4 ≤ t - F → m = h from fun h4 => by
                  rw [hqlen, hm2 (by rw [← HF.out]; exact h4)]; rfl)
                clear hov hrs hb6 hb6' hrow hv6 HE6 hc6 hqs hU hm1 hm2 hqlen hqm hqh HTZ HSC HE5 HB5 HS5
                go_wp2_with fail
                refine HBG.out.mono ?_
                rintro e7 w7 ⟨rfl, q, rfl⟩
                have HFIN := Lib.hid (HB6.out.trans (below_drewN' _ w6 q))
                clear HBG HB6
                by_cases hh0 : h = 0
                · have j1 : ¬ (h : Int) > 0 := by omega
                  have hF0 : F = 0 := by rw [HF.out, hh0]; simp [Frm.flatF]
                  have HM2 := Lib.hid (show 4 ≤ t → m = h from fun h4 => HMM.out (by omega))
                  have hmh0 : m = h ↔ m = 0 := by omega
                  clear HMM
                  by_cases ht4 : t < 4
                  · have j2 : (t : Int) < 4 := by omega
                    by_cases hmh : m = h
                    · have j3 : ((m : Int) == 0) = true := by rw [beq_iff_eq]; omega
                      go_wp2_with fail
                      go_ret
                      exact ⟨rfl, HFIN.out⟩
                    · have j3 : ((m : Int) == 0) = false := by rw [beq_eq_false_iff_ne]; omega
                      go_wp2_with fail
                      go_ret
                      exact ⟨rfl, HFIN.out⟩
                  · have j3 : ((m : Int) == 0) = true := by
                      have := HM2.out (by omega)
                      rw [beq_iff_eq]; omega
                    go_wp2_with fail
                    go_ret
                    exact ⟨rfl, HFIN.out⟩
                · have j1 : (h : Int) > 0 := by omega
                  have hcF : (w6.drewN q).cell? ⟨ge, h - 1, none⟩ = some (.int .i64 (F : Int)) := by
                    have h1 := HC6.out (h - 1) (by omega)
                    rw [ends_get ps k (h - 1) (by omega), show h - 1 + 1 = h by omega, ← HF.out] at h1
                    exact h1
                  have hk1 : h - 1 < k := by omega
                  have hsub : wrap64 ((h : Int) - 1) = ((h - 1 : Nat) : Int) := by unfold wrap64; omega
                  clear HC6 HF
                  by_cases ht4 : t - F < 4
                  · have j2 : (t : Int) - (F : Int) < 4 := by omega
                    by_cases hmh : m = h
                    · have j3 : ((m : Int) == (h : Int)) = true := by rw [beq_iff_eq]; omega
                      go_wp2_with fail
                      go_ret
                      exact ⟨rfl, HFIN.out⟩
                    · have j3 : ((m : Int) == (h : Int)) = false := by rw [beq_eq_false_iff_ne]; omega
                      go_wp2_with fail
                      go_ret
                      exact ⟨rfl, HFIN.out⟩
                  · have j3 : ((m : Int) == (h : Int)) = true := by
                      have := HMM.out (by omega)
                      rw [beq_iff_eq]; omega
                    go_wp2_with fail
                    go_ret
                    exact ⟨rfl, HFIN.out⟩
end Go.Proofs.Ytjpcbmfnjifgfaa
