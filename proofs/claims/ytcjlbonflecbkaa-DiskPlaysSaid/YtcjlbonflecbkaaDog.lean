/-
  A step of a script, done to a disk in memory and as the document says: the law's own Does: Append.
-/
import Derived.Test.YtcjlbonflecbkaaDof
import Derived.Test.YtcjlbonflecbkaaIsd
namespace Go.Proofs.Ytcjlbonflecbkaa
open Go.RowKit
set_option linter.unusedVariables false
/-- a row of bytes from its k-th on -/
def RcZ (W : World) (g : Nat) (p : List Nat) (k : Nat) : Prop := ∃ cur, W.heap[g]? = some (.cells cur 5 (0, 0)) ∧ p.length ≤ cur.size ∧ ∀ j, k ≤ j → j < p.length → cur[j]? = some (.int .u8 ((p.getD j 0 : Nat) : Int))
theorem setCell_rowZ {W : World} {g : Nat} {cur : Array Value} {t : TypeId} {fr : Nat × Nat} (h : W.heap[g]? = some (.cells cur t fr)) (k : Nat) (v : Value) : (W.setCell ⟨g, k, none⟩ v).heap[g]? = some (.cells (cur.setIfInBounds k v) t fr) := by
  obtain ⟨hl, he⟩ := Array.getElem?_eq_some_iff.1 h
  unfold World.setCell
  simp [hl, Array.getElem_modify_self, he]
/-- the bytes of a row that is nobody else's are written, one by one -/
structure TB (B : Nat) (v : Value) (zs : List Nat) (k : Nat) (w wr : World) : Prop where
  sta : Sta (fun j => v.ownBlock = some j) w wr
  bel : Below B w wr
  row : zs = [] ∨ ∃ g n c, v = .slice (some ⟨g, 0, none⟩) n c ∧ B ≤ g ∧ g < w.heap.size ∧ RcZ wr g zs k
theorem TB.start {B n c : Nat} {a : Option Addr} {zs : List Nat} {w : World} {B1 : Nat} (h : Own w B1 (.slice a n c) zs) (hB : B ≤ B1) : TB B (.slice a n c) zs 0 w w := by
  refine ⟨Sta.refl _ _, Below.refl _ _, ?_⟩
  rcases h.2 with ⟨h1, h2⟩ | ⟨g, c', cur, h1, h2, h3, h4, h5, h6, h7⟩
  · exact .inl (List.eq_nil_of_length_eq_zero h2)
  · refine .inr ⟨g, _, _, h1, Nat.le_trans hB h2, (Array.getElem?_eq_some_iff.1 h3).1, cur, h3, by omega, fun j _ hj => ?_⟩
    have e := congrArg (fun l => l[j]?) h7
    simp only [Nat.mul_one, List.getElem?_take, if_pos hj] at e
    rw [cellsOf_get zs j hj, Array.getElem?_toList] at e
    exact e
theorem TB.at {B n c k : Nat} {a : Option Addr} {zs : List Nat} {w wr : World} (h : TB B (.slice a n c) zs k w wr) (hn : n = zs.length) (hk : k < n) :
    ∃ g, a = some ⟨g, 0, none⟩ ∧ wr.cell? ⟨g, k, none⟩ = some (.int .u8 ((zs.getD k 0 : Nat) : Int)) ∧ wr.frozen? ⟨g, k, none⟩ = false ∧ ∀ y, TB B (.slice a n c) zs (k + 1) w (wr.setCell ⟨g, k, none⟩ y) := by
  rcases h.row with h0 | ⟨g, n', c', h1, h2, h3, cur, h4, h5, h6⟩
  · rw [h0] at hn; simp at hn; omega
  · obtain ⟨e1, _, _⟩ := Value.slice.inj h1
    subst e1
    refine ⟨g, rfl, (cell_of_row wr g k cur _ _ h4).trans (h6 k (Nat.le_refl _) (by omega)), frozen_of_row wr g k cur _ h4, fun y => ⟨⟨Nat.le_trans h.sta.size (by simp [World.setCell]), fun j hj hN => ?_⟩, h.bel.setCell h2 y, .inr ⟨g, n', c', h1, h2, h3, _, setCell_rowZ h4 _ _, by rw [Array.size_setIfInBounds]; exact h5, fun j hj hjl => ?_⟩⟩⟩
    · rw [Below.heap_setCell wr ⟨g, k, none⟩ y j (fun e => hN (by show some _ = some _; rw [show j = g from e]))]
      exact h.sta.blk j hj hN
    · rw [Array.getElem?_setIfInBounds_ne (by omega)]
      exact h6 j (by omega) hjl
theorem own_sl {w : World} {B : Nat} {v : Value} {zs : List Nat} (h : Own w B v zs) (hz : ∀ z ∈ zs, z < 256) : ∃ a n c, v = .slice a n c ∧ Rd w a n zs := by
  obtain ⟨a, c, h1, h2, h3, h4⟩ := h.rd hz
  exact ⟨a, _, c, h1, h4⟩
theorem own_nil0 {w : World} {B n c : Nat} {a : Option Addr} {zs : List Nat} (h : Own w B (.slice a n c) zs) : (a = none → c = 0) ∧ n = zs.length ∧ n ≤ c ∧ ∀ b o s, a = some ⟨b, o, s⟩ → (Value.slice a n c).ownBlock = some b := by
  rcases h.2 with ⟨h1, h2⟩ | ⟨g, c', cur, h1, h2, h3, h4, h5, h6, h7⟩
  · obtain ⟨e1, e2, e3⟩ := Value.slice.inj h1
    exact ⟨fun _ => e3, by omega, by omega, fun b o s e => by rw [e1] at e; cases e⟩
  · obtain ⟨e1, e2, e3⟩ := Value.slice.inj h1
    subst e1
    exact ⟨fun e => (by cases e), e2, by omega, fun b o s e => by cases e; rfl⟩
theorem rd_low {W W' : World} {B n : Nat} {a : Option Addr} {z : List Nat} (h : Rd W a n z) (hl : ∀ b o s, a = some ⟨b, o, s⟩ → n ≠ 0 → b < B) (hb : Below B W W') : Rd W' a n z := by
  obtain ⟨h1, h2, h3⟩ := h
  refine ⟨h1, h2, ?_⟩
  by_cases h0 : n = 0
  · exact .inl h0
  · obtain ⟨b, off, rfl, hlt, hc⟩ := h3.resolve_left h0
    have hbB := hl b off none rfl h0
    exact .inr ⟨b, off, rfl, Nat.lt_of_lt_of_le hlt hb.size, fun i hi => (World.cell?_of_block (hb.block b hbB)).trans (hc i hi)⟩
theorem idx_lt {l : Fls} {s : ByteArray} {i : Nat} (h : idxF l s = some i) : ∃ z, l[i]? = some (s, z) ∧ lookF l s = some z := idxF_some h
set_option maxRecDepth 100000 in
set_option maxHeartbeats 8000000 in
theorem does1_c {X0 : Nat → Prop} {B d m k : Nat} {A : Ad} {w : World} (h : Two X0 B d m k A w) (hB : B ≤ w.heap.size) (hk : k ≤ 1000) (s t : ByteArray) (hs : s.size ≤ maxLen) (ht : t.size ≤ maxLen) (pa : Option Addr) (pn pc : Nat) (ps : List Nat) (hp : Rd w pa pn ps) (hpl : ∀ b o s, pa = some ⟨b, o, s⟩ → pn ≠ 0 → b < B) (hpn : pa = none → pc = 0) (hple : pn ≤ pc) (hpm : pn ≤ 140737488355327) (n q : Int) : Calls Try.prog 10 #[.pointer (some ⟨d, 0, none⟩), .pointer (some ⟨m, 0, none⟩), .agg #[.int .i64 1, .string s, .string t, .slice pa pn pc, .int .i64 n, .int .i64 q]] w (DoR X0 B d m k w (A.step ⟨1, s, ⟨#[]⟩, ps⟩).1) := by
  obtain ⟨X, hX⟩ : ∃ X, X = w.heap.size := ⟨_, rfl⟩
  obtain ⟨w1, hw1⟩ : ∃ w1, w1 = w.alloc (.cells #[.int .i64 1, .string s, .string t, .slice pa pn pc, .int .i64 n, .int .i64 q] 32) := ⟨_, rfl⟩
  have hbx : OpB w1 X 1 s t (.slice pa pn pc) n q := by rw [hw1, hX]; exact heap_alloc_new w _
  have hr1 := (h.boxed (o := .cells #[.int .i64 1, .string s, .string t, .slice pa pn pc, .int .i64 n, .int .i64 q] 32) hB)
  rw [← hX, ← hw1] at hr1
  have hg := h.gd
  have HBX := Lib.hid hbx
  have HXW := Lib.hid hX
  have HW1 := Lib.hid (show Below w.heap.size w w1 from by rw [hw1]; exact (Below.refl _ _).alloc (Nat.le_refl _) _)
  have HLT := Lib.hid h.rel.lt
  obtain ⟨i0, i1, i2, i3, i4, i5⟩ := hbx.cells
  obtain ⟨x, hx⟩ : ∃ x, (A.step ⟨1, s, ⟨#[]⟩, ps⟩).2 = x := ⟨_, rfl⟩
  have hp1 := hp.below HW1.out
  have HTW := Lib.hid (twin_c pa pn pc ps w1 hp1 hpm)
  have hz256 : ∀ z ∈ ps, z < 256 := hp.2.1
  have HZ := Lib.hid hz256
  have HP := Lib.hid hp
  have HR1 := Lib.hid hr1
  have HG := Lib.hid hg
  have HX := Lib.hid hx
  have HBND := Lib.hid (h.bnd.step ⟨1, s, ⟨#[]⟩, ps⟩)
  have HB0 := Lib.hid h.bnd
  have HPL := Lib.hid hpl
  have hXB : B ≤ X := by rw [hX]; exact hB
  have hX1 : X < w1.heap.size := by rw [hw1, hX]; simp
  clear h hbx hr1 hg hx hp hp1 hz256 hpl
  go_enter Try.func10, Try.ntmps10
  go_upto_region 5 with fail
  rw [← hX]
  rw [← hw1]
  clear hX hw1
  clear i0 i1 i2 i4 i5
  go_wp2_with fail
  refine HTW.out.mono ?_
  rintro e2 w2 ⟨v2, rfl, hown2, hb2⟩
  obtain ⟨va, vn, vc, hv2, hrd2⟩ := own_sl hown2 HZ.out
  subst hv2
  obtain ⟨hnil, hvl, hvc, hblk⟩ := own_nil0 hown2
  obtain ⟨X2, hX2⟩ : ∃ X2 : Nat → Prop, X2 = fun j => (X0 j ∨ j = X) ∨ (Value.slice va vn vc).ownBlock = some j := ⟨_, rfl⟩
  have hlt2 : ∀ j, X2 j → B ≤ j ∧ j < w2.heap.size := fun j hj => by
    rw [hX2] at hj
    rcases hj with hj | hj
    · exact ⟨(HR1.out.rel.lt j hj).1, Nat.lt_of_lt_of_le (HR1.out.rel.lt j hj).2 hb2.size⟩
    · have := World.ownsRow.lt hown2 j hj
      exact ⟨by omega, this.2⟩
  have hr2 : Rel X2 B d m (3 * k) A A w2 := HR1.out.rel.more (Sta.ofBelow hb2) (fun j hj => by
    rw [hX2] at hj
    rcases hj with hj | hj
    · exact .inl hj
    · exact .inr (World.ownsRow.lt hown2 j hj).1) hlt2
  have i1 : w2.cell? ⟨X, 1, none⟩ = some (.string s) := (hb2.cell (p := ⟨X, 1, none⟩) hX1).trans HBX.out.cells.2.1
  have HC1 := Lib.hid (hr2.prog (N' := 3 * k + 3) (fun S h1 h2 h4 => aappend h1 h2 s hs va vn vc ps ⟨hrd2, fun b o e hbe hn0 => h4 b (by rw [hX2]; exact .inr (hblk b o e hbe)), hnil⟩ (by omega)))
  rw [HX.out] at HC1
  have HBX2 := Lib.hid (show OpB w2 X 1 s t (.slice pa pn pc) n q from (hb2.block X hX1).trans HBX.out)
  have HB2 := Lib.hid (hb2.mono (show B ≤ w1.heap.size by omega))
  have HOW := Lib.hid hown2
  have HVL := Lib.hid hvl
  have HX2 := Lib.hid hX2
  have HK12 := Lib.hid (show KpX (fun j => X0 j ∨ j = X) w1 w2 from KpX.ofBelow hb2 fun j hj => (HR1.out.rel.lt j hj).2)
  have HOB := Lib.hid (show ∀ j, (Value.slice va vn vc).ownBlock = some j → w1.heap.size ≤ j from fun j hj => (World.ownsRow.lt hown2 j hj).1)
  clear hown2 hb2 hrd2 hr2 hlt2 hblk hnil hvc HTW hX2 i3 hvl
  go_wp2_with fail
  refine HC1.out.mono ?_
  rintro e3 w3 ⟨rfl, hr3, hb3, hk3⟩
  have hkO : ∀ j, (Value.slice va vn vc).ownBlock = some j → w3.heap[j]? = w2.heap[j]? := fun j hj => hk3 j (by rw [HX2.out]; exact .inr hj)
  have hTB : TB B (.slice va vn vc) ps 0 w3 w3 := TB.start (row_keep HOW.out hkO) (show B ≤ w1.heap.size by omega)
  obtain ⟨zs, hzs⟩ : ∃ zs, zs = ps := ⟨_, rfl⟩
  have hvl := HVL.out
  have hvm : vn ≤ 140737488355327 := by have e1 := HP.out.1; omega
  rw [← hzs] at hTB hvl
  have HLEN := Lib.hid hvl
  have HZS := Lib.hid hzs
  have HTB := Lib.hid hTB
  have HR3 := Lib.hid hr3
  have HB3 := Lib.hid hb3
  have HK3 := Lib.hid hk3
  clear hr3 hb3 hk3 hkO hTB hvl hzs HC1 i1 hXB HOW HVL
  go_wp2_with fail
  go_loopw [41] (fun i wr => ∃ kk : Nat, kk ≤ vn ∧ i = .int .i64 kk ∧ Hid (TB B (.slice va vn vc) zs kk w3 wr)) (fun i _ => vn - (intOf i).toNat)
  case atStart => exact ⟨0, Nat.zero_le _, rfl, HTB⟩
  case round =>
    clear HTB
    obtain ⟨kk, hkk, rfl, HK⟩ := hrel
    by_cases hkn : kk < vn
    · obtain ⟨gb, hgb, hcg, hfz, hst⟩ := HK.out.at HLEN.out hkn
      subst hgb
      obtain ⟨x, hx⟩ : ∃ x, zs.getD kk 0 = x := ⟨_, rfl⟩
      rw [hx] at hcg
      have HST := Lib.hid hst
      have i0 : (0 : Int) ≤ (kk : Int) := by omega
      have i1 : (kk : Int) < (vn : Int) := by omega
      clear hst hx HK
      go_wp2_with fail
      go_roundw
      case rel => exact ⟨kk + 1, by omega, by go_num, Lib.hid (HST.out _)⟩
      case measure => simp [intOf]; omega
    · obtain ⟨hst, hbr, -⟩ := HK.out
      have hstX : Sta X2 w3 wr := ⟨hst.size, fun j hj hn => hst.blk j hj fun hx => hn (by rw [HX2.out]; exact .inr hx)⟩
      have hr4 := HR3.out.more hstX (fun j hj => .inl hj) (fun j hj => ⟨(HR3.out.lt j hj).1, Nat.lt_of_lt_of_le (HR3.out.lt j hj).2 hst.size⟩)
      have HXN := Lib.hid (show ∀ j, X0 j ∨ j = X → (w3.heap[j]? = w2.heap[j]?) ∧ wr.heap[j]? = w3.heap[j]? from fun j hj => ⟨HK3.out j (by rw [HX2.out]; exact .inl hj), hst.blk j (HR3.out.lt j (by rw [HX2.out]; exact .inl hj)).2 fun hx => by
        have h1 := HOB.out j hx
        have h2 := (HR1.out.rel.lt j hj).2
        omega⟩)
      have hbx4 : OpB wr X 1 s t (.slice pa pn pc) n q := by
        have h1 := HXN.out X (.inr rfl)
        exact (h1.2.trans h1.1).trans HBX2.out
      obtain ⟨i0, i1, i2, i3, i4, i5⟩ := hbx4.cells
      have hpw : Rd wr pa pn ps := rd_low (HP.out.below HW1.out) HPL.out (HB2.out.trans (HB3.out.trans hbr))
      have HC2 := Lib.hid (hr4.step HG.out HB0.out (by omega) ⟨1, s, ⟨#[]⟩, ps⟩ (show 1 ≤ 3 from by decide) pa pn pc hpw HPL.out hpn hple hpm hs (Nat.zero_le _))
      rw [HX.out] at HC2
      have HBR := Lib.hid hbr
      have hxx : (x == x) = true := by simp
      clear hst hbr hstX hr4 hbx4 hpw HK i0 i2 i4 i5
      go_wp2_with fail
      refine HC2.out.mono ?_
      rintro e5 w5 ⟨rfl, hr5, hb5, hk5⟩
      have HE := Lib.hid (show DoR X0 B d m k w (A.step ⟨1, s, ⟨#[]⟩, ps⟩).1 (.returned (.bool true)) w5 from DoR.fin (X1 := X2) (fun j hj => by rw [HX2.out]; exact .inl (.inl hj)) hr5 HBND.out ((HW1.out.mono hB).trans (HB2.out.trans (HB3.out.trans (HBR.out.trans hb5)))) fun j hj => by
        have h1 := HXN.out j (.inl hj)
        rw [hk5 j (by rw [HX2.out]; exact .inl (.inl hj)), h1.2, h1.1, HK12.out j (.inl hj)]
        exact HW1.out.block j (HLT.out j hj).2)
      clear hr5 hb5 hk5 HC2 HBR HXN hxx
      go_wp2_with fail
      go_ret
      exact HE.out
end Go.Proofs.Ytcjlbonflecbkaa
