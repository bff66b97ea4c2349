/-
  The walk over DigestNil.
-/
import Derived.Test.YtnnofcfagdbafabDoorSav
import Derived.Test.YtnnofcfagdbafabDoorDaw
import Derived.Test.YtnnofcfagdbafabDoorCmp
import Derived.Test.YtnnofcfagdbafabDoorTwin
import Derived.Test.YtnnofcfagdbafabDoorSame
import Derived.Test.YtnnofcfagdbafabDoorFrame
namespace Go.Proofs.YtnnofcfagdbafabDoor
open Go.RowKit
set_option linter.unusedVariables false

theorem Only.rdo {g : Nat} {w w0 w' : World} (h : Only g w w') {a : Option Addr} {len : Nat} {zs : List Nat} (h0 : Rd w0 a len zs) (hr : Rd w a len zs) (hg : w0.heap.size ≤ g) : Rd w' a len zs := h.rd' hr (h0.blk g hg)
theorem StM.bytes {w : World} {g : Nat} {hs tail : List Nat} {n : Nat} (h : StM w g hs tail n) : ∀ x ∈ tail, x < 256 := by
  obtain ⟨bs, hst, rfl⟩ := h
  exact fun x hx => hst.bb x (List.mem_of_mem_take hx)
theorem saved_byte (hs tail : List Nat) (n : Nat) (ht : ∀ x ∈ tail, x < 256) : ∀ x ∈ saved hs tail n, x < 256 := by
  intro x hx
  simp only [saved, List.mem_append] at hx
  rcases hx with (h | h) | h
  · exact bytesOf_byte _ x h
  · exact Numm.put_byte _ _ x h
  · exact ht x h
theorem Own.row {w : World} {B gb L cap : Nat} {Y : List Nat} (h : Own w B (.slice (some ⟨gb, 0, none⟩) L cap) Y) (hl : Y.length = L) : w.ownsRow B 5 1 (.slice (some ⟨gb, 0, none⟩) L cap) L (cellsOf Y) := by
  subst hl; exact h
theorem Own.cellq {w : World} {B gb L cap : Nat} {Y : List Nat} (h : Own w B (.slice (some ⟨gb, 0, none⟩) L cap) Y) (hl : Y.length = L) (k : Nat) (hk : k < L) : w.cell? ⟨gb, k, none⟩ = some (.int .u8 ((Y.getD k 0 : Nat) : Int)) := by
  rw [(h.row hl).cellAt k (by omega)]
  exact cellsOf_get Y k (by omega)
theorem Own.setq {w : World} {B gb L cap : Nat} {Y : List Nat} (h : Own w B (.slice (some ⟨gb, 0, none⟩) L cap) Y) (hl : Y.length = L) (k x : Nat) : Own (w.setCell ⟨gb, k, none⟩ (.int .u8 (x : Int))) B (.slice (some ⟨gb, 0, none⟩) L cap) (Y.set k x) := by
  have := ((h.row hl).stored k (.int .u8 (x : Int))).1
  unfold Own
  rw [List.length_set, hl, show cellsOf (Y.set k x) = (cellsOf Y).set k (.int .u8 (x : Int)) by simp [cellsOf, List.map_set]]
  exact this
theorem StM.below {B : Nat} {w w' : World} {g : Nat} {hs tail : List Nat} {n : Nat} (h : StM w g hs tail n) (hb : Below B w w') (hg : g < B) : StM w' g hs tail n := by
  obtain ⟨bs, hst, ht⟩ := h
  exact ⟨bs, hst.below hb hg, ht⟩
theorem u8_xor255 (y : Nat) (hy : y < 256) : bits .xor .u8 (y : Int) 255 = ((y ^^^ 255 : Nat) : Int) := u8_xor_nat y 255 hy (by omega)
theorem set_byte (L : List Nat) (k x : Nat) (h : ∀ z ∈ L, z < 256) (hx : x < 256) : ∀ z ∈ L.set k x, z < 256 := set_mem L k x h hx
set_option maxRecDepth 100000 in
set_option maxHeartbeats 2000000 in
theorem nil_c (a : Option Addr) (len cap : Nat) (z : List Nat) (w : World) (r : BytesIn w a len cap z) (ht : Tab w) :
    Calls Tryd.prog 10 #[.slice a len cap] w fun e w' => e = .returned (.bool true) ∧ Below w.heap.size w w' := by
  obtain ⟨hr, hnc, hlc, hcm⟩ := r
  have HR := Lib.hid hr
  have HT := Lib.hid ht
  have hpos := ht.pos
  have HB0 : Hid (∀ x ∈ z, x < 256) := Lib.hid hr.2.1
  have HLZ := Lib.hid hr.1
  clear hr ht hnc
  go_enter Tryd.func10, Tryd.ntmps10
  go_wp2_with fail
  refine ((twin_c a len cap z w HR.out (by omega)).mono (RetB.form HB0.out)).mono ?_
  rintro e1 w1 ⟨a1, L1, c1, rfl, hl1, hlc1, hc1, hn1, hr1, ho1, hb1⟩
  have HR1 := Lib.hid hr1
  have HB1 := Lib.hid hb1
  have hs1 := hb1.size
  clear hr1 hb1 ho1 hn1
  go_wp2_with fail
  refine (new_c w1).mono ?_
  rintro e2 w2 ⟨g, rfl, hg, hst2, hb2⟩
  have HB2 := Lib.hid hb2
  have HST2 := Lib.hid (show StM w2 g Sha.H0 [] 0 from ⟨_, hst2, rfl⟩)
  have HT2 := Lib.hid (HT.out.below (HB1.out.trans (hb2.mono hs1)) hpos)
  have HR2 := Lib.hid ((HR.out.below HB1.out).below (hb2))
  have hs2 := hb2.size
  have hgl := hst2.lt
  clear hst2 hb2
  go_wp2_with fail
  have HRW := Lib.hid (show Rd w2 a len z from HR.out.below (HB1.out.trans (HB2.out.mono hs1)))
  refine (write_c w2 g Sha.H0 [] 0 HST2.out a len cap z HRW.out hlc (by omega) (by omega) (HR.out.blk g (by omega)) HT2.out (by omega)).mono ?_
  rintro e3 w3 ⟨rfl, hst3, ho3⟩
  rw [List.nil_append, Nat.zero_add] at hst3
  have HST3 := Lib.hid hst3
  have HO3 := Lib.hid ho3
  have HB3 := Lib.hid (show Below w.heap.size w w3 from (HB1.out.trans (HB2.out.mono hs1)).trans (ho3.below (by omega) (by omega)))
  have HR3 := Lib.hid (show Rd w3 a len z from HR.out.below HB3.out)
  have HRT3 := Lib.hid (show Rd w3 a1 L1 z from ho3.rdo HR1.out (HR1.out.below HB2.out) hg)
  have hs3 := ho3.size
  clear hst3 ho3 HST2 HR2 HRW HT2
  go_wp2_with fail
  refine ((save_c w3 g _ _ _ HST3.out).mono (RetB.form (saved_byte _ _ _ HST3.out.bytes))).mono ?_
  rintro e4 w4 ⟨a4, L4, c4, rfl, hl4, hlc4, hc4, hn4, hr4, ho4, hb4⟩
  have HSL := Lib.hid (show (saved (Sha.run Sha.H0 z) (Sha.rest z) len).length = L4 from hl4)
  have hL4 : 0 < L4 := by
    rw [← hl4]
    simp only [saved, List.length_append, bytesOf_len, Numm.put_len]
    omega
  obtain ⟨gb, rfl, hgb⟩ : ∃ gb, a4 = some ⟨gb, 0, none⟩ ∧ w3.heap.size ≤ gb := by
    rcases ho4.2 with ⟨h0, h1⟩ | ⟨gb, cp, cur, hv, hgb, _⟩
    · rw [hl4] at h1; omega
    · simp only [Value.slice.injEq] at hv
      exact ⟨gb, hv.1, hgb⟩
  obtain ⟨Y0, hY0⟩ : ∃ y, y = saved (Sha.run Sha.H0 z) (Sha.rest z) len := ⟨_, rfl⟩
  rw [← hY0] at ho4 HSL
  have HO4 := Lib.hid ho4
  have HY4 : Hid (∀ y ∈ Y0, y < 256) := Lib.hid (by rw [hY0]; exact saved_byte _ _ _ HST3.out.bytes)
  have HB4 := Lib.hid hb4
  clear ho4 hb4 hr4 hn4 hl4 hY0
  go_wp2_with fail
  go_loopw [18] (fun i wr => ∃ (k : Nat) (Y : List Nat), k ≤ L4 ∧ i = .int .i64 k ∧ Hid (Own wr w3.heap.size (.slice (some ⟨gb, 0, none⟩) L4 c4) Y) ∧ Hid (Y.length = L4) ∧ Hid (∀ y ∈ Y, y < 256) ∧ Hid (Below w3.heap.size w3 wr)) (fun i _ => L4 - (intOf i).toNat)
  case atStart => exact ⟨0, Y0, by omega, rfl, HO4, HSL, HY4, HB4⟩
  case round =>
    clear HO4 HSL HY4 HB4
    obtain ⟨k, Y, hk, rfl, HO, HL, HY, HB⟩ := hrel
    by_cases hkL : k < L4
    · obtain ⟨y, hy⟩ : ∃ y, y = Y.getD k 0 := ⟨_, rfl⟩
      have hy8 : y < 256 := by rw [hy, getD_at _ _ (by rw [HL.out]; exact hkL)]; exact HY.out _ (List.getElem_mem _)
      have hcell : wr.cell? ⟨gb, k, none⟩ = some (.int .u8 (y : Int)) := by rw [hy]; exact HO.out.cellq HL.out k hkL
      have hfz : wr.frozen? ⟨gb, k, none⟩ = false := (HO.out.row HL.out).frozenAt k
      have hxo := u8_xor255 y hy8
      have HO1 := Lib.hid (HO.out.setq HL.out k (y ^^^ 255))
      have HB1' := Lib.hid (show Below w3.heap.size w3 (wr.setCell ⟨gb, k, none⟩ (.int .u8 ((y ^^^ 255 : Nat) : Int))) from HB.out.setCell hgb _)
      have hx8 : y ^^^ 255 < 256 := Nat.xor_lt_two_pow (n := 8) hy8 (by omega)
      have HY1 := Lib.hid (set_byte Y k (y ^^^ 255) HY.out hx8)
      have HL1 := Lib.hid (show (Y.set k (y ^^^ 255)).length = L4 from by rw [List.length_set, HL.out])
      obtain ⟨x, hx⟩ : ∃ x, x = y ^^^ 255 := ⟨_, rfl⟩
      rw [← hx] at hxo HO1 HB1' HY1 HL1
      clear hy hx hx8
      go_wp2
      go_roundw
      case rel => exact ⟨k + 1, Y.set k x, by omega, by go_num, HO1, HL1, HY1, HB1'⟩
      case measure => simp [intOf]; omega
    · have HBc := HB
      have hpos3 : 0 < w3.heap.size := by omega
      have hg3 : g < w3.heap.size := by omega
      have HT3 := Lib.hid (HT.out.below HB3.out hpos)
      obtain ⟨D, hD⟩ : ∃ d, d = Sha.sum z := ⟨_, rfl⟩
      have HSUM := Lib.hid (show ∀ W, StM W g (Sha.run Sha.H0 z) (Sha.rest z) len → Tab W → Calls Tryd.prog 23 #[.pointer (some ⟨g, 0, none⟩)] W (DigRet D W) from fun W hW hT => by
        have e : Sha.close (Sha.run Sha.H0 z) (Sha.rest z) len = D := by rw [hD, ← HLZ.out]; rfl
        rw [← e]
        exact ssum_c W g _ _ _ hW hT)
      have HDS := Lib.hid (show ∀ W, Rd W a len z → Tab W → Calls Tryd.prog 12 #[.slice a len cap] W (DigRet D W) from fun W hW hT => by rw [hD]; exact dsum_c a len cap z W hW hlc (by omega) (by omega) hT)
      have HEQ1 := Lib.hid (fun W => eq_dig 25 32 Tryd.underlying25 W zs32 zs32 zs32_len zs32_len (by decide) (by decide))
      have HEQ2 := Lib.hid (fun W => eq_dig 25 32 Tryd.underlying25 W D D (by rw [hD, sum_len]) (by rw [hD, sum_len]) (by rw [hD]; exact sum_byte _) (by rw [hD]; exact sum_byte _))
      simp only [decide_true] at HEQ1 HEQ2
      have HGT := Lib.hid (show Tryd.prog.eqGuardType Tryd.prog.depth 25 = false by kernel_rfl)
      clear HO HL HY hD
      go_wp2_with (first | (go_at_call 11; refine (awake2_c _ (HT3.out.below HBc.out hpos3)).mono ?_; rintro e wb ⟨rfl, hbb⟩; have HBc := Lib.hid (HBc.out.trans (hbb.mono HBc.out.size)); clear hbb) | (go_at_call 19; (with_reducible refine (write_nil _ _).mono ?_); rintro e wb ⟨rfl, rfl⟩) | (go_at_call 22; (with_reducible refine (size_nil _).mono ?_); rintro e wb ⟨rfl, rfl⟩) | (go_at_call 23; (with_reducible refine (ssum_nil _).mono ?_); rintro e wb ⟨rfl, hbb⟩; have HBc := Lib.hid (HBc.out.trans (hbb.mono HBc.out.size)); clear hbb) | (go_at_call 21; (with_reducible refine (save_nil _).mono ?_); rintro e wb ⟨rfl, rfl⟩) | (go_at_call 23; (with_reducible refine (HSUM.out _ (HST3.out.below HBc.out hg3) (HT3.out.below HBc.out hpos3)).mono ?_); rintro e wb ⟨rfl, hbb⟩; have HBc := Lib.hid (HBc.out.trans (hbb.mono HBc.out.size)); clear hbb) | (go_at_call 12; refine (HDS.out _ (HR3.out.below HBc.out) (HT3.out.below HBc.out hpos3)).mono ?_; rintro e wb ⟨rfl, hbb⟩; have HBc := Lib.hid (HBc.out.trans (hbb.mono HBc.out.size)); clear hbb) | (go_at_call 26; refine (same_c a a1 len cap L1 c1 z z _ (HR3.out.below HBc.out) (HRT3.out.below HBc.out) (by omega)).mono ?_; rintro e wb ⟨rfl, q, rfl⟩; have HBc := Lib.hid (HBc.out.trans (below_drewN' _ _ q))) | (refine wpList_eqg 25 _ _ _ (by rfl) (by rfl) (cellsOf zs32).toArray (cellsOf zs32).toArray (by rfl) (by rfl) HGT.out true (HEQ1.out _) ?_) | (refine wpList_eqg 25 _ _ _ (by rfl) (by rfl) (cellsOf D).toArray (cellsOf D).toArray (by rfl) (by rfl) HGT.out true (HEQ2.out _) ?_))
      go_ret
      exact ⟨rfl, HB3.out.trans (HBc.out.mono (by omega))⟩
end Go.Proofs.YtnnofcfagdbafabDoor
