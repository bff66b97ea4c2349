/-
  The table's Keys.
-/
import Derived.Test.YtjjkfbebaoikbaaTbi
import Derived.Test.YtjjkfbebaoikbaaDnm
namespace Go.Proofs.Ytjjkfbebaoikbaa
open Go.RowKit Go.Maps Go.Sort
set_option linter.unusedVariables false
theorem TM.has {B m n : Nat} {V : Nat → Prop} {w : World} {D : DU} {f : ByteArray → Option (List Nat)} (h : TM B V w m n D f) (s : ByteArray) : Maps.has D (keyS s) = (f s).isSome := by
  rcases h.vs s with ⟨h1, h2⟩ | ⟨v, zs, h1, h2, _⟩
  · rw [h1, h2]; rfl
  · rw [h2, h1]; rfl
/-- one text behind another -/
def gtB (x y : ByteArray) : Bool := !(Op.bytesLess x.toList y.toList || x.toList == y.toList)
theorem run_gtB (x y : ByteArray) (W : World) : (binOp .gtr 9 (.string x) (.string y)).run Try.prog W = .ok (.bool (gtB x y)) W := by kernel_rfl
/-- a slice of bytes as a map's element -/
def slV (c : Option Nat × Nat × Nat) : Value := match c.1 with
  | none => .slice none 0 0
  | some b => .slice (some ⟨b, 0, none⟩) c.2.1 c.2.2
theorem rowR_invP (v : Value) (y : DU × List MemPlace) (h : rowR v = some y) : ∃ c, v = slV c := by
  unfold rowR at h
  split at h
  · exact ⟨(none, 0, 0), rfl⟩
  · exact ⟨(some _, _, _), rfl⟩
  · cases h
/-- the keys that begin so, behind another one -/
def kyP (head after x : ByteArray) : Bool := gtB x after && hasP head x
/-- what Keys answers, by what the map holds -/
def KyT (f : ByteArray → Option (List Nat)) (head after : ByteArray) (most : Int) (w : World) (e : Ending) (w' : World) : Prop :=
  ∃ (cs : List ByteArray) (a : Option Addr) (c : Nat), cs.Nodup ∧ (∀ s, s ∈ cs ↔ (f s).isSome = true ∧ kyP head after s = true) ∧ cs.Pairwise (fun a b => a.data.toList ≤ b.data.toList) ∧ e = .returned (.slice a (min (max most 0) (cs.length : Nat)).toNat c) ∧ OwnS w' w.heap.size (.slice a cs.length c) cs ∧ Below w.heap.size w w'
/-- so far as the map has told its keys -/
structure KyR (D : DU) (n : Nat) (f : ByteArray → Option (List Nat)) (head after : ByteArray) (b : Nat) (w : World) (v : Value) (wr : World) : Prop where
  ex : ∃ left cnt cs, wr.ranges Try.prog 9 rowR b w.heap.size n D left cnt ∧ OwnS wr (w.heap.size + 1) v cs ∧ cs.Nodup ∧ (∀ s, s ∈ cs ↔ (f s).isSome = true ∧ left (keyS s) = false ∧ kyP head after s = true) ∧ cs.length + cnt ≤ Maps.size D
  bel : Below w.heap.size w wr
  sz : w.heap.size + 1 ≤ wr.heap.size
theorem KyR.start {B m n : Nat} {V : Nat → Prop} {D : DU} {f : ByteArray → Option (List Nat)} {w w0 : World} (head after : ByteArray) (h : TM B V w m n D f) (hrg : w0.ranges Try.prog 9 rowR m w.heap.size n D (Maps.has D) (Maps.size D)) (hg : w.grownBy w0 none) (hs : w0.heap.size = w.heap.size + 1) : KyR D n f head after m w (.slice none 0 0) w0 :=
  ⟨⟨_, _, [], hrg, World.ownsRow_nil _ _ _ _, List.nodup_nil, fun s => ⟨fun h => (by cases h), fun ⟨h1, h2, _⟩ => (by rw [h.has, h1] at h2; cases h2)⟩, by simp⟩, (Below.refl _ _).grown hg (Nat.le_refl _) (by simp), by omega⟩
theorem KyR.told {B m n : Nat} {V : Nat → Prop} {D : DU} {f : ByteArray → Option (List Nat)} {w : World} {head after : ByteArray} {left : Lit → Bool} {cs : List ByteArray} {x : ByteArray} {kl : Lit} (h : TM B V w m n D f) (hkey : keyOf Try.prog 9 (.string x) = some kl) (hl : left kl = true) {y : DU × List MemPlace} (hat : ∀ zd, D.atKey kl zd = y.1)
    (hmem : ∀ s, s ∈ cs ↔ (f s).isSome = true ∧ left (keyS s) = false ∧ kyP head after s = true) (p : Bool) (hp : kyP head after x = p) :
    kl = keyS x ∧ (f x).isSome = true ∧ x ∉ cs ∧ (∀ s, s ∈ (if p then cs ++ [x] else cs) ↔ (f s).isSome = true ∧ (fun z : Lit => left z && !z.sameKey kl) (keyS s) = false ∧ kyP head after s = true) := by
  obtain ⟨s, e1, e2, e3⟩ := WideMaps.string_of_keyOf Try.underlying9 hkey
  obtain rfl : x = s := by simpa using e1
  have ek : kl = keyS x := e2
  subst ek
  have hax : (f x).isSome = true := by
    rw [← h.has]
    cases hh : Maps.has D (keyS x) with
    | true => rfl
    | false =>
      have a1 := hat .nil
      have a2 := hat (.lit (.bool true))
      rw [atKey_of_not_has hh] at a1 a2
      rw [← a1] at a2
      cases a2
  have hnx : x ∉ cs := fun hm => by
    have := ((hmem x).1 hm).2.1
    rw [hl] at this
    cases this
  refine ⟨rfl, hax, hnx, fun s => ?_⟩
  simp only [keyS_same]
  by_cases es : s = x
  · subst es
    cases p with
    | true => simp [hax, hp]
    | false => simp [hnx, hax, hp]
  · have h1 := hmem s
    cases p with
    | true => simp [es, h1]
    | false => simp [es, h1]
set_option maxRecDepth 100000 in
theorem run_headS (W : World) (a : Option Addr) (len cap k : Nat) (hk : k ≤ cap) :
    (Instr.sliceAt 38 (.slice a len cap) none (some (.int .i64 (k : Int))) none).run Try.prog W = .ok (.slice a k cap) W := by
  rw [run_sliceAt_slice W _ _ _ _ _ Try.underlying38, run_slice_h W _ a len cap Try.underlying38 .i64 (k : Int) (by omega) (by omega), show Try.prog.elem 38 = 9 by kernel_rfl, show (Go.sizeOf 9).run Try.prog W = .ok 1 W from by kernel_rfl]
  simp [Result.andThen, sliced, add_zero']
set_option maxRecDepth 100000 in
set_option maxHeartbeats 8000000 in
theorem tkeys_c {B m n tb : Nat} {V : Nat → Prop} {D : DU} {f : ByteArray → Option (List Nat)} {jv : Value} {dn : Bool} {w : World} (h : TM B V w m n D f) (ht : TRow w tb jv m dn) (head after : ByteArray) (most : Int) (hz : Maps.size D ≤ 100000) (hns : ∀ s, (f s).isSome = true → s.size ≤ 400) :
    Calls Try.prog 12 #[.pointer (some ⟨tb, 0, none⟩), .string head, .string after, .int .i64 most] w (KyT f head after most w) := by
  have y1 := ht.cells.2.1
  have HNS := Lib.hid hns
  have HZ := Lib.hid hz
  have HTM := Lib.hid h
  have HOM := Lib.hid h.mp
  have hmw := h.mp.lt
  clear h ht hns hz
  go_enter Try.func12, Try.ntmps12
  go_wp2_with (first | (at_range; refine wpList_range_own _ rfl _ 65 rfl 9 41 mapLaw Try.underlying65 rowR m n D rfl HOM.out ?_; intro w0 hrg0 hg0 hs0) | fail)
  have HI := Lib.hid (KyR.start head after HTM.out hrg0 hg0 hs0)
  clear hrg0 hg0 hs0
  go_frame
  go_loopw [9] (fun v wr => Hid (KyR D n f head after m w v wr)) (fun _ wr => wr.rangeLeft m w.heap.size)
  case atStart => exact HI
  case round =>
    clear HI
    have HS := hrel
    obtain ⟨left, cnt, cs, hrg, hown, hnd, hmem, hcl⟩ := HS.out.ex
    have HCL := Lib.hid hcl
    have HRG := Lib.hid hrg
    have HOW := Lib.hid hown
    have HND := Lib.hid hnd
    have HMEM := Lib.hid hmem
    clear hrg hown hnd hmem hcl
    go_wp2_with (first | (at_next; refine wpList_next_ranges _ rfl _ rfl 9 mapLaw rowR Value.string slV (fun key kl hk => by obtain ⟨s, e1, _, _⟩ := WideMaps.string_of_keyOf Try.underlying9 hk; exact ⟨s, e1⟩) rowR_invP m w.heap.size n D left cnt rfl HRG.out ?_ ?_) | fail)
    · intro hc0 hl0
      have HMF := Lib.hid (show ∀ s, s ∈ cs ↔ (f s).isSome = true ∧ kyP head after s = true from fun s => (HMEM.out s).trans (by rw [hl0]; simp))
      clear hl0
      have hB := HS.out.bel
      rcases HOW.out.2 with ⟨e7, h0⟩ | ⟨g, cap, cur, e7, hbase, hb, h1, h2, h3, h4⟩
      · subst e7
        have hcs : cs = [] := List.eq_nil_of_length_eq_zero h0
        have HB := Lib.hid hB
        have HF := Lib.hid hcs
        clear hB h0 hcs
        go_wp2_with fail
        refine (slices_Sort_string_none none 0 wr).mono ?_
        rintro e3 w3 ⟨rfl, rfl⟩
        go_wp2_with fail
        go_ret
        exact ⟨[], none, 0, List.nodup_nil, fun s => by rw [← HF.out]; exact HMF.out s, List.Pairwise.nil, rfl, World.ownsRow_nil _ _ _ _, HB.out⟩
      · subst e7
        have hh : Holds Go.Proofs.encStr wr g 0 (cs.map (·.data.toList)).toArray := holds_of_block hb (by rw [List.length_map, List.map_map]; rw [Nat.mul_one] at h4; exact h4)
        have hgs := (Array.getElem?_eq_some_iff.1 hb).1
        have hcc := HCL.out
        have hzz := HZ.out
        have HSO := Lib.hid (slices_Sort_string g 0 cap (cs.map (·.data.toList)) wr hh hgs (by rw [List.length_map]; omega))
        rw [List.length_map] at HSO
        have HB := Lib.hid hB
        have HBL := Lib.hid (show w.heap.size + 1 ≤ g ∧ wr.heap[g]? = some (.cells cur 9 (0, 0)) ∧ cs.length ≤ cap ∧ cap ≤ maxLen ∧ cur.size = cap * 1 from ⟨hbase, hb, h1, h2, h3⟩)
        obtain ⟨ds, hds⟩ : ∃ ds, ds = cs.mergeSort fun a b => decide (a.data.toList ≤ b.data.toList) := ⟨_, rfl⟩
        have HF := Lib.hid (show (cs.map (·.data.toList)).mergeSort (fun x y => decide (x ≤ y)) = ds.map (·.data.toList) from by
          rw [hds]
          exact (List.map_mergeSort (f := fun x : ByteArray => x.data.toList) (r := fun a b : ByteArray => decide (a.data.toList ≤ b.data.toList)) (s := fun x y : List UInt8 => decide (x ≤ y)) (l := cs) fun a _ b _ => rfl).symm)
        have HPM := Lib.hid (show ds.Perm cs from by rw [hds]; exact List.mergeSort_perm _ _)
        have HPW := Lib.hid (show ds.Pairwise (fun a b => a.data.toList ≤ b.data.toList) from by
          rw [hds]
          refine (List.pairwise_mergeSort (le := fun a b : ByteArray => decide (a.data.toList ≤ b.data.toList)) (fun a b c h1 h2 => ?_) (fun a b => ?_) cs).imp fun {a b} h => of_decide_eq_true h
          · simp only [decide_eq_true_eq] at h1 h2 ⊢
            exact List.le_trans h1 h2
          · simp only [Bool.or_eq_true, decide_eq_true_eq]
            exact List.le_total a.data.toList b.data.toList)
        have hlen : ds.length = cs.length := HPM.out.length_eq
        have i1 : (0 : Int) ≤ min (max most 0) (cs.length : Int) := by omega
        have i2 : min (max most 0) (cs.length : Int) ≤ (cap : Int) := by omega
        clear hB hbase hb h1 h2 h3 h4 hh hgs hcc hzz hds
        go_wp2_with fail
        refine HSO.out.mono ?_
        rintro e3 w3 ⟨rfl, q, os, hw3⟩
        have HW3 := Lib.hid hw3
        clear hw3 HSO
        go_wp2_with fail
        go_ret
        obtain ⟨k1, k2, k3, k4, k5⟩ := HBL.out
        refine ⟨ds, some ⟨g, 0, none⟩, cap, HPM.out.nodup_iff.2 HND.out, fun s => HPM.out.mem_iff.trans (HMF.out s), HPW.out, by rw [hlen]; rfl, ?_, ?_⟩
        · rw [HW3.out, HF.out]
          have ho := ownsRow_sorted (w := wr) (base := w.heap.size) (g := g) (cap := cap) (n := q) (os := os) (ss := cs.map (·.data.toList)) (ts := ds.map (·.data.toList)) (by rw [List.length_map, List.length_map, hlen]) (by omega) k2 (by rw [List.length_map]; exact k3) k4 k5
          rw [List.length_map, List.map_map] at ho
          unfold OwnS
          rw [hlen]
          exact ho
        · rw [HW3.out]
          exact HB.out.grown (grownBy_sorted _) HB.out.size (fun k hk => by have := Option.some.inj hk; omega)
    · intro x ca cb cc kl y ps w2 cnt1 hkey hlk hv hat hrg1 hlt hg1 hs1 hen
      obtain ⟨hp, hpe⟩ : ∃ p, kyP head after x = p := ⟨_, rfl⟩
      have hsz2 : w.heap.size + 1 ≤ w2.heap.size := by rw [hs1]; exact HS.out.sz
      obtain ⟨hkl, hax, hnx, hmem2⟩ := KyR.told (y := (y, ps)) HTM.out hkey hlk hat HMEM.out hp hpe
      have hb2 : Below w.heap.size w w2 := HS.out.bel.trans ⟨hg1.os, hg1.tape, hg1.output, hg1.size, fun k hk => hg1.block k (Nat.lt_of_lt_of_le hk HS.out.bel.size) fun e => by have := Option.some.inj e; omega⟩
      have hne := row_ne_iter HOW.out HRG.out
      have hown2 : OwnS w2 (w.heap.size + 1) u9 cs := row_keep HOW.out fun k hk => hg1.block k (World.ownsRow.lt HOW.out k hk).2 fun e => hne (by rw [← e]; exact hk.symm)
      have HOW2 := Lib.hid hown2
      have HRG2 := Lib.hid hrg1
      have HB2 := Lib.hid hb2
      have HM2 := Lib.hid hmem2
      have HNX := Lib.hid hnx
      have HXS := Lib.hid (HNS.out x hax)
      have HC2 := Lib.hid (show cs.length + 1 + cnt1 ≤ Maps.size D by have := HCL.out; omega)
      have HLT := Lib.hid (show w2.rangeLeft m w.heap.size < wr.rangeLeft m w.heap.size by rw [hrg1.left_eq, HRG.out.left_eq]; exact hlt)
      have HPE := Lib.hid hpe
      have HSZ := Lib.hid hsz2
      clear hkey hlk hv hat hrg1 hlt hg1 hs1 hpe hsz2 hkl hax hnx hmem2 hb2 hne hown2 HS HRG HOW HMEM hrel
      cases hgx : gtB x after with
      | false =>
        have HPF : hp = false := by rw [← HPE.out]; unfold kyP; rw [hgx]; rfl
        subst HPF
        have hn : ¬(Op.bytesLess x.toList after.toList = false ∧ ¬x.toList = after.toList) := fun ⟨g1, g2⟩ => by
          unfold gtB at hgx
          rw [g1] at hgx
          simp [g2] at hgx
        clear hgx
        go_wp2_with (first | fail)
        all_goals first | (exact absurd (by assumption) hn) | skip
        refine ⟨Lib.hid ⟨⟨_, cnt1, cs, HRG2.out, HOW2.out, HND.out, by simpa using HM2.out, by have := HC2.out; omega⟩, HB2.out, HSZ.out⟩, HLT.out⟩
      | true =>
        have HPF := Lib.hid (show hasP head x = hp from by rw [← HPE.out]; unfold kyP; rw [hgx]; rfl)
        have hn1 : Op.bytesLess x.toList after.toList = false := by
          unfold gtB at hgx
          cases hb : Op.bytesLess x.toList after.toList with
          | false => rfl
          | true => rw [hb] at hgx; simp at hgx
        have hn2 : ¬x.toList = after.toList := fun g => by
          unfold gtB at hgx
          rw [g] at hgx
          simp at hgx
        have hn3 : (x.toList == after.toList) = false := by simp [hn2]
        have hn : Op.bytesLess x.toList after.toList = false ∧ ¬x.toList = after.toList := ⟨hn1, hn2⟩
        clear hgx
        cases hp with
        | true =>
          go_wp2_with fail
          refine (strings_HasPrefix x head w2).mono ?_
          rintro e3 w3 ⟨rfl, rfl⟩
          rw [show Lib.hasPrefix x.data.toList head.data.toList = true from HPF.out]
          go_wp2_with fail
          refine (tclone_c x w3 HXS.out).mono ?_
          rintro e4 w4 ⟨rfl, hb4⟩
          have HOW4 := Lib.hid (show OwnS w4 (w.heap.size + 1) u9 cs from row_keep HOW2.out fun k hk => hb4.block k (World.ownsRow.lt HOW2.out k hk).2)
          have HRG4 := Lib.hid (show w4.ranges Try.prog 9 rowR m w.heap.size n D _ cnt1 from HRG2.out.kept (row := none) ⟨hb4.os, hb4.tape, hb4.output, hb4.size, fun k hk _ => hb4.block k hk⟩ (by simp) (by simp))
          have HB4 := Lib.hid (HB2.out.trans (hb4.mono HB2.out.size))
          have hsz4 : w.heap.size + 1 ≤ w4.heap.size := Nat.le_trans HSZ.out hb4.size
          have hlen4 : cs.length + 1 ≤ 1000000000 := by have h1 := HC2.out; have h2 := HZ.out; omega
          have HL4 := Lib.hid (show w4.rangeLeft m w.heap.size < wr.rangeLeft m w.heap.size by rw [HRG4.out.left_eq, ← HRG2.out.left_eq]; exact HLT.out)
          clear hb4 HOW2 HRG2 HB2
          go_wp2_with (at_builtin; (refine wpList_pushS rfl _ _ rfl (w.heap.size + 1) u9 cs x rfl HOW4.out hsz4 rfl hlen4 ?_); intro v5 w5 hown5 hg5)
          have hrgA := HRG4.out.alloc (.cells #[.string x] 9)
          have hneA := row_ne_iter HOW4.out HRG4.out
          have hnlA := row_ne_low HOW4.out (b := m) (by omega)
          have hrg5 := hrgA.kept hg5 hnlA hneA
          refine ⟨Lib.hid ⟨⟨_, cnt1, cs ++ [x], hrg5, hown5, List.nodup_append.2 ⟨HND.out, by simp, fun a ha b hb e => ?_⟩, by simpa using HM2.out, by have := HC2.out; rw [List.length_append, List.length_singleton]; exact this⟩, ?_, ?_⟩, by rw [hrg5.left_eq, ← HRG4.out.left_eq]; exact HL4.out⟩
          · rw [List.mem_singleton] at hb
            subst hb
            subst e
            exact HNX.out ha
          · exact (HB4.out.alloc (by omega) _).grown hg5 (by simp; omega) fun k hk => by have := (World.ownsRow.lt HOW4.out k hk).1; omega
          · have := hg5.size
            rw [World.size_alloc] at this
            omega
        | false =>
          go_wp2_with fail
          refine (strings_HasPrefix x head w2).mono ?_
          rintro e3 w3 ⟨rfl, rfl⟩
          rw [show Lib.hasPrefix x.data.toList head.data.toList = false from HPF.out]
          go_wp2_with fail
          refine ⟨Lib.hid ⟨⟨_, cnt1, cs, HRG2.out, HOW2.out, HND.out, by simpa using HM2.out, by have := HC2.out; omega⟩, HB2.out, HSZ.out⟩, HLT.out⟩
end Go.Proofs.Ytjjkfbebaoikbaa
