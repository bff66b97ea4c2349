/-
  The table's Keys. The table's Len. What hallmarklaw11.awake answers: true, by the table's contracts.
-/
import Derived.Test.YtihbgigledmliaaTbi
import Derived.Test.YtihbgigledmliaaDnm
import Derived.Lib.SlBytesConst
namespace Go.Proofs.Ytihbgigledmliaa
open Go.RowKit Go.Maps Go.Sort
set_option linter.unusedVariables false
theorem TM.has {B m n : Nat} {V : Nat → Prop} {w : World} {D : DU} {f : ByteArray → Option (List Nat)} (h : TM B V w m n D f) (s : ByteArray) : Maps.has D (keyS s) = (f s).isSome := by
  rcases h.vs s with ⟨h1, h2⟩ | ⟨v, zs, h1, h2, _⟩
  · rw [h1, h2]; rfl
  · rw [h2, h1]; rfl
/-- one text behind another -/
def gtB (x y : ByteArray) : Bool := !(Op.bytesLess x.toList y.toList || x.toList == y.toList)
theorem run_gtB (x y : ByteArray) (W : World) : (binOp .gtr 9 (.string x) (.string y)).run Try.prog W = .ok (.bool (gtB x y)) W := by kernel_rfl
/-- a slice of bytes as a map's element -/
def slV (c : Option Nat × Nat × Nat) : Value := match c.1 with
  | none => .slice none 0 0
  | some b => .slice (some ⟨b, 0, none⟩) c.2.1 c.2.2
theorem rowR_invP (v : Value) (y : DU × List MemPlace) (h : rowR v = some y) : ∃ c, v = slV c := by
  unfold rowR at h
  split at h
  · exact ⟨(none, 0, 0), rfl⟩
  · exact ⟨(some _, _, _), rfl⟩
  · cases h
/-- the keys that begin so, behind another one -/
def kyP (head after x : ByteArray) : Bool := gtB x after && hasP head x
/-- what Keys answers, by what the map holds -/
def KyT (f : ByteArray → Option (List Nat)) (head after : ByteArray) (most : Int) (w : World) (e : Ending) (w' : World) : Prop :=
  ∃ (cs : List ByteArray) (a : Option Addr) (c : Nat), cs.Nodup ∧ (∀ s, s ∈ cs ↔ (f s).isSome = true ∧ kyP head after s = true) ∧ cs.Pairwise (fun a b => a.data.toList ≤ b.data.toList) ∧ e = .returned (.slice a (min (max most 0) (cs.length : Nat)).toNat c) ∧ OwnS w' w.heap.size (.slice a cs.length c) cs ∧ Below w.heap.size w w'
/-- so far as the map has told its keys -/
structure KyR (D : DU) (n : Nat) (f : ByteArray → Option (List Nat)) (head after : ByteArray) (b : Nat) (w : World) (v : Value) (wr : World) : Prop where
  ex : ∃ left cnt cs, wr.ranges Try.prog 9 rowR b w.heap.size n D left cnt ∧ OwnS wr (w.heap.size + 1) v cs ∧ cs.Nodup ∧ (∀ s, s ∈ cs ↔ (f s).isSome = true ∧ left (keyS s) = false ∧ kyP head after s = true) ∧ cs.length + cnt ≤ Maps.size D
  bel : Below w.heap.size w wr
  sz : w.heap.size + 1 ≤ wr.heap.size
theorem KyR.start {B m n : Nat} {V : Nat → Prop} {D : DU} {f : ByteArray → Option (List Nat)} {w w0 : World} (head after : ByteArray) (h : TM B V w m n D f) (hrg : w0.ranges Try.prog 9 rowR m w.heap.size n D (Maps.has D) (Maps.size D)) (hg : w.grownBy w0 none) (hs : w0.heap.size = w.heap.size + 1) : KyR D n f head after m w (.slice none 0 0) w0 :=
  ⟨⟨_, _, [], hrg, World.ownsRow_nil _ _ _ _, List.nodup_nil, fun s => ⟨fun h => (by cases h), fun ⟨h1, h2, _⟩ => (by rw [h.has, h1] at h2; cases h2)⟩, by simp⟩, (Below.refl _ _).grown hg (Nat.le_refl _) (by simp), by omega⟩
theorem KyR.told {B m n : Nat} {V : Nat → Prop} {D : DU} {f : ByteArray → Option (List Nat)} {w : World} {head after : ByteArray} {left : Lit → Bool} {cs : List ByteArray} {x : ByteArray} {kl : Lit} (h : TM B V w m n D f) (hkey : keyOf Try.prog 9 (.string x) = some kl) (hl : left kl = true) {y : DU × List MemPlace} (hat : ∀ zd, D.atKey kl zd = y.1)
    (hmem : ∀ s, s ∈ cs ↔ (f s).isSome = true ∧ left (keyS s) = false ∧ kyP head after s = true) (p : Bool) (hp : kyP head after x = p) :
    kl = keyS x ∧ (f x).isSome = true ∧ x ∉ cs ∧ (∀ s, s ∈ (if p then cs ++ [x] else cs) ↔ (f s).isSome = true ∧ (fun z : Lit => left z && !z.sameKey kl) (keyS s) = false ∧ kyP head after s = true) := by
  obtain ⟨s, e1, e2, e3⟩ := WideMaps.string_of_keyOf Try.underlying9 hkey
  obtain rfl : x = s := by simpa using e1
  have ek : kl = keyS x := e2
  subst ek
  have hax : (f x).isSome = true := by
    rw [← h.has]
    cases hh : Maps.has D (keyS x) with
    | true => rfl
    | false =>
      have a1 := hat .nil
      have a2 := hat (.lit (.bool true))
      rw [atKey_of_not_has hh] at a1 a2
      rw [← a1] at a2
      cases a2
  have hnx : x ∉ cs := fun hm => by
    have := ((hmem x).1 hm).2.1
    rw [hl] at this
    cases this
  refine ⟨rfl, hax, hnx, fun s => ?_⟩
  simp only [keyS_same]
  by_cases es : s = x
  · subst es
    cases p with
    | true => simp [hax, hp]
    | false => simp [hnx, hax, hp]
  · have h1 := hmem s
    cases p with
    | true => simp [es, h1]
    | false => simp [es, h1]
set_option maxRecDepth 100000 in
theorem run_headS (W : World) (a : Option Addr) (len cap k : Nat) (hk : k ≤ cap) :
    (Instr.sliceAt 38 (.slice a len cap) none (some (.int .i64 (k : Int))) none).run Try.prog W = .ok (.slice a k cap) W := by
  rw [run_sliceAt_slice W _ _ _ _ _ Try.underlying38, run_slice_h W _ a len cap Try.underlying38 .i64 (k : Int) (by omega) (by omega), show Try.prog.elem 38 = 9 by kernel_rfl, show (Go.sizeOf 9).run Try.prog W = .ok 1 W from by kernel_rfl]
  simp [Result.andThen, sliced, add_zero']
set_option maxRecDepth 100000 in
set_option maxHeartbeats 8000000 in
theorem tkeys_c {B m n tb : Nat} {V : Nat → Prop} {D : DU} {f : ByteArray → Option (List Nat)} {jv : Value} {dn : Bool} {w : World} (h : TM B V w m n D f) (ht : TRow w tb jv m dn) (head after : ByteArray) (most : Int) (hz : Maps.size D ≤ 100000) (hns : ∀ s, (f s).isSome = true → s.size ≤ 400) :
    Calls Try.prog 11 #[.pointer (some ⟨tb, 0, none⟩), .string head, .string after, .int .i64 most] w (KyT f head after most w) := by
  have y1 := ht.cells.2.1
  have HNS := Lib.hid hns
  have HZ := Lib.hid hz
  have HTM := Lib.hid h
  have HOM := Lib.hid h.mp
  have hmw := h.mp.lt
  clear h ht hns hz
  go_enter Try.func11, Try.ntmps11
  go_wp2_with (first | (at_range; refine wpList_range_own _ rfl _ 58 rfl 9 41 mapLaw Try.underlying58 rowR m n D rfl HOM.out ?_; intro w0 hrg0 hg0 hs0) | fail)
  have HI := Lib.hid (KyR.start head after HTM.out hrg0 hg0 hs0)
  clear hrg0 hg0 hs0
  go_frame
  go_loopw [9] (fun v wr => Hid (KyR D n f head after m w v wr)) (fun _ wr => wr.rangeLeft m w.heap.size)
  case atStart => exact HI
  case round =>
    clear HI
    have HS := hrel
    obtain ⟨left, cnt, cs, hrg, hown, hnd, hmem, hcl⟩ := HS.out.ex
    have HCL := Lib.hid hcl
    have HRG := Lib.hid hrg
    have HOW := Lib.hid hown
    have HND := Lib.hid hnd
    have HMEM := Lib.hid hmem
    clear hrg hown hnd hmem hcl
    go_wp2_with (first | (at_next; refine wpList_next_ranges _ rfl _ rfl 9 mapLaw rowR Value.string slV (fun key kl hk => by obtain ⟨s, e1, _, _⟩ := WideMaps.string_of_keyOf Try.underlying9 hk; exact ⟨s, e1⟩) rowR_invP m w.heap.size n D left cnt rfl HRG.out ?_ ?_) | fail)
    · intro hc0 hl0
      have HMF := Lib.hid (show ∀ s, s ∈ cs ↔ (f s).isSome = true ∧ kyP head after s = true from fun s => (HMEM.out s).trans (by rw [hl0]; simp))
      clear hl0
      have hB := HS.out.bel
      rcases HOW.out.2 with ⟨e7, h0⟩ | ⟨g, cap, cur, e7, hbase, hb, h1, h2, h3, h4⟩
      · subst e7
        have hcs : cs = [] := List.eq_nil_of_length_eq_zero h0
        have HB := Lib.hid hB
        have HF := Lib.hid hcs
        clear hB h0 hcs
        go_wp2_with fail
        refine (slices_Sort_string_none none 0 wr).mono ?_
        rintro e3 w3 ⟨rfl, rfl⟩
        go_wp2_with fail
        go_ret
        exact ⟨[], none, 0, List.nodup_nil, fun s => by rw [← HF.out]; exact HMF.out s, List.Pairwise.nil, rfl, World.ownsRow_nil _ _ _ _, HB.out⟩
      · subst e7
        have hh : Holds Go.Proofs.encStr wr g 0 (cs.map (·.data.toList)).toArray := holds_of_block hb (by rw [List.length_map, List.map_map]; rw [Nat.mul_one] at h4; exact h4)
        have hgs := (Array.getElem?_eq_some_iff.1 hb).1
        have hcc := HCL.out
        have hzz := HZ.out
        have HSO := Lib.hid (slices_Sort_string g 0 cap (cs.map (·.data.toList)) wr hh hgs (by rw [List.length_map]; omega))
        rw [List.length_map] at HSO
        have HB := Lib.hid hB
        have HBL := Lib.hid (show w.heap.size + 1 ≤ g ∧ wr.heap[g]? = some (.cells cur 9 (0, 0)) ∧ cs.length ≤ cap ∧ cap ≤ maxLen ∧ cur.size = cap * 1 from ⟨hbase, hb, h1, h2, h3⟩)
        obtain ⟨ds, hds⟩ : ∃ ds, ds = cs.mergeSort fun a b => decide (a.data.toList ≤ b.data.toList) := ⟨_, rfl⟩
        have HF := Lib.hid (show (cs.map (·.data.toList)).mergeSort (fun x y => decide (x ≤ y)) = ds.map (·.data.toList) from by
          rw [hds]
          exact (List.map_mergeSort (f := fun x : ByteArray => x.data.toList) (r := fun a b : ByteArray => decide (a.data.toList ≤ b.data.toList)) (s := fun x y : List UInt8 => decide (x ≤ y)) (l := cs) fun a _ b _ => rfl).symm)
        have HPM := Lib.hid (show ds.Perm cs from by rw [hds]; exact List.mergeSort_perm _ _)
        have HPW := Lib.hid (show ds.Pairwise (fun a b => a.data.toList ≤ b.data.toList) from by
          rw [hds]
          refine (List.pairwise_mergeSort (le := fun a b : ByteArray => decide (a.data.toList ≤ b.data.toList)) (fun a b c h1 h2 => ?_) (fun a b => ?_) cs).imp fun {a b} h => of_decide_eq_true h
          · simp only [decide_eq_true_eq] at h1 h2 ⊢
            exact List.le_trans h1 h2
          · simp only [Bool.or_eq_true, decide_eq_true_eq]
            exact List.le_total a.data.toList b.data.toList)
        have hlen : ds.length = cs.length := HPM.out.length_eq
        have i1 : (0 : Int) ≤ min (max most 0) (cs.length : Int) := by omega
        have i2 : min (max most 0) (cs.length : Int) ≤ (cap : Int) := by omega
        clear hB hbase hb h1 h2 h3 h4 hh hgs hcc hzz hds
        go_wp2_with fail
        refine HSO.out.mono ?_
        rintro e3 w3 ⟨rfl, q, os, hw3⟩
        have HW3 := Lib.hid hw3
        clear hw3 HSO
        go_wp2_with fail
        go_ret
        obtain ⟨k1, k2, k3, k4, k5⟩ := HBL.out
        refine ⟨ds, some ⟨g, 0, none⟩, cap, HPM.out.nodup_iff.2 HND.out, fun s => HPM.out.mem_iff.trans (HMF.out s), HPW.out, by rw [hlen]; rfl, ?_, ?_⟩
        · rw [HW3.out, HF.out]
          have ho := ownsRow_sorted (w := wr) (base := w.heap.size) (g := g) (cap := cap) (n := q) (os := os) (ss := cs.map (·.data.toList)) (ts := ds.map (·.data.toList)) (by rw [List.length_map, List.length_map, hlen]) (by omega) k2 (by rw [List.length_map]; exact k3) k4 k5
          rw [List.length_map, List.map_map] at ho
          unfold OwnS
          rw [hlen]
          exact ho
        · rw [HW3.out]
          exact HB.out.grown (grownBy_sorted _) HB.out.size (fun k hk => by have := Option.some.inj hk; omega)
    · intro x ca cb cc kl y ps w2 cnt1 hkey hlk hv hat hrg1 hlt hg1 hs1 hen
      obtain ⟨hp, hpe⟩ : ∃ p, kyP head after x = p := ⟨_, rfl⟩
      have hsz2 : w.heap.size + 1 ≤ w2.heap.size := by rw [hs1]; exact HS.out.sz
      obtain ⟨hkl, hax, hnx, hmem2⟩ := KyR.told (y := (y, ps)) HTM.out hkey hlk hat HMEM.out hp hpe
      have hb2 : Below w.heap.size w w2 := HS.out.bel.trans ⟨hg1.os, hg1.tape, hg1.output, hg1.size, fun k hk => hg1.block k (Nat.lt_of_lt_of_le hk HS.out.bel.size) fun e => by have := Option.some.inj e; omega⟩
      have hne := row_ne_iter HOW.out HRG.out
      have hown2 : OwnS w2 (w.heap.size + 1) u9 cs := row_keep HOW.out fun k hk => hg1.block k (World.ownsRow.lt HOW.out k hk).2 fun e => hne (by rw [← e]; exact hk.symm)
      have HOW2 := Lib.hid hown2
      have HRG2 := Lib.hid hrg1
      have HB2 := Lib.hid hb2
      have HM2 := Lib.hid hmem2
      have HNX := Lib.hid hnx
      have HXS := Lib.hid (HNS.out x hax)
      have HC2 := Lib.hid (show cs.length + 1 + cnt1 ≤ Maps.size D by have := HCL.out; omega)
      have HLT := Lib.hid (show w2.rangeLeft m w.heap.size < wr.rangeLeft m w.heap.size by rw [hrg1.left_eq, HRG.out.left_eq]; exact hlt)
      have HPE := Lib.hid hpe
      have HSZ := Lib.hid hsz2
      clear hkey hlk hv hat hrg1 hlt hg1 hs1 hpe hsz2 hkl hax hnx hmem2 hb2 hne hown2 HS HRG HOW HMEM hrel
      cases hgx : gtB x after with
      | false =>
        have HPF : hp = false := by rw [← HPE.out]; unfold kyP; rw [hgx]; rfl
        subst HPF
        have hn : ¬(Op.bytesLess x.toList after.toList = false ∧ ¬x.toList = after.toList) := fun ⟨g1, g2⟩ => by
          unfold gtB at hgx
          rw [g1] at hgx
          simp [g2] at hgx
        clear hgx
        go_wp2_with (first | fail)
        all_goals first | (exact absurd (by assumption) hn) | skip
        refine ⟨Lib.hid ⟨⟨_, cnt1, cs, HRG2.out, HOW2.out, HND.out, by simpa using HM2.out, by have := HC2.out; omega⟩, HB2.out, HSZ.out⟩, HLT.out⟩
      | true =>
        have HPF := Lib.hid (show hasP head x = hp from by rw [← HPE.out]; unfold kyP; rw [hgx]; rfl)
        have hn1 : Op.bytesLess x.toList after.toList = false := by
          unfold gtB at hgx
          cases hb : Op.bytesLess x.toList after.toList with
          | false => rfl
          | true => rw [hb] at hgx; simp at hgx
        have hn2 : ¬x.toList = after.toList := fun g => by
          unfold gtB at hgx
          rw [g] at hgx
          simp at hgx
        have hn3 : (x.toList == after.toList) = false := by simp [hn2]
        have hn : Op.bytesLess x.toList after.toList = false ∧ ¬x.toList = after.toList := ⟨hn1, hn2⟩
        clear hgx
        cases hp with
        | true =>
          go_wp2_with fail
          refine (strings_HasPrefix x head w2).mono ?_
          rintro e3 w3 ⟨rfl, rfl⟩
          rw [show Lib.hasPrefix x.data.toList head.data.toList = true from HPF.out]
          go_wp2_with fail
          refine (tclone_c x w3 HXS.out).mono ?_
          rintro e4 w4 ⟨rfl, hb4⟩
          have HOW4 := Lib.hid (show OwnS w4 (w.heap.size + 1) u9 cs from row_keep HOW2.out fun k hk => hb4.block k (World.ownsRow.lt HOW2.out k hk).2)
          have HRG4 := Lib.hid (show w4.ranges Try.prog 9 rowR m w.heap.size n D _ cnt1 from HRG2.out.kept (row := none) ⟨hb4.os, hb4.tape, hb4.output, hb4.size, fun k hk _ => hb4.block k hk⟩ (by simp) (by simp))
          have HB4 := Lib.hid (HB2.out.trans (hb4.mono HB2.out.size))
          have hsz4 : w.heap.size + 1 ≤ w4.heap.size := Nat.le_trans HSZ.out hb4.size
          have hlen4 : cs.length + 1 ≤ 1000000000 := by have h1 := HC2.out; have h2 := HZ.out; omega
          have HL4 := Lib.hid (show w4.rangeLeft m w.heap.size < wr.rangeLeft m w.heap.size by rw [HRG4.out.left_eq, ← HRG2.out.left_eq]; exact HLT.out)
          clear hb4 HOW2 HRG2 HB2
          go_wp2_with (at_builtin; (refine wpList_pushS rfl _ _ rfl (w.heap.size + 1) u9 cs x rfl HOW4.out hsz4 rfl hlen4 ?_); intro v5 w5 hown5 hg5)
          have hrgA := HRG4.out.alloc (.cells #[.string x] 9)
          have hneA := row_ne_iter HOW4.out HRG4.out
          have hnlA := row_ne_low HOW4.out (b := m) (by omega)
          have hrg5 := hrgA.kept hg5 hnlA hneA
          refine ⟨Lib.hid ⟨⟨_, cnt1, cs ++ [x], hrg5, hown5, List.nodup_append.2 ⟨HND.out, by simp, fun a ha b hb e => ?_⟩, by simpa using HM2.out, by have := HC2.out; rw [List.length_append, List.length_singleton]; exact this⟩, ?_, ?_⟩, by rw [hrg5.left_eq, ← HRG4.out.left_eq]; exact HL4.out⟩
          · rw [List.mem_singleton] at hb
            subst hb
            subst e
            exact HNX.out ha
          · exact (HB4.out.alloc (by omega) _).grown hg5 (by simp; omega) fun k hk => by have := (World.ownsRow.lt HOW4.out k hk).1; omega
          · have := hg5.size
            rw [World.size_alloc] at this
            omega
        | false =>
          go_wp2_with fail
          refine (strings_HasPrefix x head w2).mono ?_
          rintro e3 w3 ⟨rfl, rfl⟩
          rw [show Lib.hasPrefix x.data.toList head.data.toList = false from HPF.out]
          go_wp2_with fail
          refine ⟨Lib.hid ⟨⟨_, cnt1, cs, HRG2.out, HOW2.out, HND.out, by simpa using HM2.out, by have := HC2.out; omega⟩, HB2.out, HSZ.out⟩, HLT.out⟩
end Go.Proofs.Ytihbgigledmliaa
namespace Go.Proofs.Ytihbgigledmliaa
open Go.RowKit Go.Maps
set_option linter.unusedVariables false
set_option maxRecDepth 100000 in
set_option maxHeartbeats 2000000 in
theorem tlen_c {B m n tb : Nat} {V : Nat → Prop} {D : DU} {f : ByteArray → Option (List Nat)} {jv : Value} {dn : Bool} {w : World} (h : TM B V w m n D f) (ht : TRow w tb jv m dn) :
    Calls Try.prog 20 #[.pointer (some ⟨tb, 0, none⟩)] w fun e w' => (∃ l : List ByteArray, l.Nodup ∧ (∀ s, s ∈ l ↔ (f s).isSome = true) ∧ e = .returned (.int .i64 (l.length : Nat))) ∧ w' = w := by
  have y1 := ht.cells.2.1
  obtain ⟨l, l1, l2, l3⟩ := h.ks
  have hln := fun ty => h.mp.len Try.underlying58 ty
  have HL := Lib.hid (show ∃ l : List ByteArray, l.Nodup ∧ (∀ s, s ∈ l ↔ (f s).isSome = true) ∧ Ending.returned (.int .i64 (Maps.size D : Nat)) = .returned (.int .i64 (l.length : Nat)) from ⟨l, l1, l2, by rw [l3]⟩)
  clear h ht l1 l2 l3
  go_enter Try.func20, Try.ntmps20
  go_wp2_with fail
  go_ret
  exact ⟨HL.out, rfl⟩
end Go.Proofs.Ytihbgigledmliaa
namespace Go.Proofs.Ytihbgigledmliaa
open Go.RowKit Go.Maps
set_option linter.unusedVariables false
def nmt : ByteArray := ⟨#[116]⟩
def A1000 : Ad := ⟨1000, -1, false, [], [], []⟩
theorem load1000 : (Ad.load A1000 nmt).2 = 0 := by rfl
theorem recs1000 : recsA A1000 nmt = [] := by rfl
def ka : ByteArray := ⟨#[97]⟩
def kb : ByteArray := ⟨#[98]⟩
theorem Tbl.wide {X : Nat → Prop} {B d jb tb m n N sz : Nat} {nm : ByteArray} {A : Ad} {f : ByteArray → Option (List Nat)} {dn : Bool} {w w' : World} (h : Tbl X B d jb tb m n N nm sz A f dn w) (hb : Below w.heap.size w w') : Tbl (fun j => X j ∨ (w.heap.size ≤ j ∧ j < w'.heap.size)) B d jb tb m n N nm sz A f dn w' := by
  obtain ⟨D, hD⟩ := h.tm
  have hjl := h.jn.dx.lt jb h.jn.xj
  exact ⟨⟨h.jn.dx.belowY hb (fun j hj => hj.imp id fun e => e.1) (fun j hj => hj.elim (fun e => Nat.lt_of_lt_of_le (h.jn.dx.lt j e) hb.size) fun e => e.2), .inl h.jn.xj, h.jn.bj, (hb.block jb hjl).trans h.jn.row⟩, ⟨D, (hD.below hb).moreV fun k hk => ⟨.inl hk.1, hk.2⟩⟩, (hb.block tb h.mt.2.2.2.2).trans h.row, .inl h.tx, h.tj, .inl h.mx, h.bt⟩
def awL (e1 : Nat) : List Cg := [⟨ka, false, some ⟨e1, 0, none⟩, 1, 1, [49]⟩, ⟨kb, false, none, 0, 0, []⟩]
theorem chg_a : chgB ka false [49] = [1, 1, 97, 1, 49] := by
  unfold chgB ka
  simp only [Bool.false_eq_true, if_false]
  rw [show Cntm.cnt (ByteArray.size ⟨#[97]⟩) = [1] from Cntm.cnt_lo (by decide), show Cntm.cnt [49].length = [1] from Cntm.cnt_lo (by decide)]
  rfl
theorem chg_b : chgB kb false [] = [1, 1, 98, 0] := by
  unfold chgB kb
  simp only [Bool.false_eq_true, if_false]
  rw [show Cntm.cnt (ByteArray.size ⟨#[98]⟩) = [1] from Cntm.cnt_lo (by decide), show Cntm.cnt ([] : List Nat).length = [0] from Cntm.cnt_lo (by decide)]
  rfl
theorem awL_enc (e1 : Nat) : encT (awL e1) = ([2, 1, 1, 97, 1, 49, 1, 1, 98, 0], 0) := by
  unfold encT
  rw [show (awL e1).length = 2 from rfl, if_neg (by omega), show Cntm.cnt 2 = [2] from Cntm.cnt_lo (by decide)]
  unfold awL
  simp only [encG, chg_a, chg_b]
  rw [if_neg (by decide), if_neg (by simp), if_neg (by decide), if_neg (by simp)]
  rfl
theorem awL_keep : (Ad.keep (Ad.load A1000 nmt).1 nmt [2, 1, 1, 97, 1, 49, 1, 1, 98, 0]).2 = 0 := by kernel_rfl
def awF : ByteArray → Option (List Nat) := fun t => if t = kb then some [] else if t = ka then some [49] else none
theorem awF_some (s : ByteArray) : (awF s).isSome = true ↔ s = ka ∨ s = kb := by
  unfold awF
  by_cases h1 : s = kb
  · simp [h1]
  · by_cases h2 : s = ka
    · simp [h2, show ¬ ka = kb from by decide]
    · simp [h1, h2]
theorem len_one {l : List ByteArray} (hn : l.Nodup) {x : ByteArray} (hm : ∀ s, s ∈ l ↔ s = x) : l.length = 1 :=
  ((List.perm_ext_iff_of_nodup (l₂ := [x]) hn (by simp)).2 fun s => (hm s).trans (by simp)).length_eq
theorem len_two {l : List ByteArray} (hn : l.Nodup) {x y : ByteArray} (hne : x ≠ y) (hm : ∀ s, s ∈ l ↔ s = x ∨ s = y) : l.length = 2 :=
  ((List.perm_ext_iff_of_nodup (l₂ := [x, y]) hn (by simp [hne])).2 fun s => (hm s).trans (by simp)).length_eq
theorem kyP_ab (s : ByteArray) : (awF s).isSome = true ∧ kyP ⟨#[]⟩ ka s = true ↔ s = kb := by
  rw [awF_some]
  constructor
  · rintro ⟨rfl | rfl, h⟩
    · unfold kyP gtB at h
      simp at h
    · rfl
  · rintro rfl
    refine ⟨.inr rfl, ?_⟩
    unfold kyP gtB
    rw [bytesLess_eq, Lib.toList_data, Lib.toList_data]
    decide
set_option maxRecDepth 100000 in
set_option maxHeartbeats 8000000 in
theorem awake11_c (w : World) : Calls Try.prog 6 #[] w fun e w' => e = .returned (.bool true) ∧ Below w.heap.size w w' := by
  have HD := Lib.hid (dnew_c 1000 w (by omega) (by omega))
  go_enter Try.func6, Try.ntmps6
  go_wp2_with fail
  refine HD.out.mono ?_
  rintro e1 w1 ⟨rfl, hk1, hb1⟩
  obtain ⟨d, hd⟩ : ∃ d, d = w.heap.size := ⟨_, rfl⟩
  have hdx1 : Dx (fun _ => False) w.heap.size d 0 A1000 w1 := ⟨⟨newS 1000, by rw [hd]; exact hk1, anewS 1000 (by omega) (by omega), fun j hj => hj.elim⟩, fun j hj => hj.elim⟩
  rw [← hd]
  have HOP := Lib.hid (topen_none hdx1 (by omega) nmt (by decide) (by decide) (fun z hz => by cases hz) recs1000)
  have HB1 := Lib.hid hb1
  clear hk1 hb1 hdx1 HD hd
  go_wp2_with fail
  refine HOP.out.mono ?_
  rintro e2 w2 ⟨Y, y1, y2, y3, y4, y5, hres⟩
  obtain ⟨-, jb, tb, m, rfl, htb, y6, y7, y8⟩ := hres.resolve_right (fun h => h.1 load1000)
  have HB2 := Lib.hid (HB1.out.trans y3)
  obtain ⟨e1, he1⟩ : ∃ e1, e1 = w2.heap.size := ⟨_, rfl⟩
  obtain ⟨w3, hw3⟩ : ∃ w3, w3 = w2.alloc (.cells #[.int .u8 49] 5 (1, 2)) := ⟨_, rfl⟩
  have hz3 : w3.heap.size = e1 + 1 := by rw [hw3, he1]; simp
  obtain ⟨w4, hw4⟩ : ∃ w4, w4 = w3.alloc (.cells #[.string ka, .bool false, .slice (some ⟨e1, 0, none⟩) 1 1, .string kb, .bool false, .slice none 0 0] 65) := ⟨_, rfl⟩
  have hb3 : Below w2.heap.size w2 w3 := by rw [hw3]; exact (Below.refl _ _).alloc (Nat.le_refl _) _
  have hb4 : Below w3.heap.size w3 w4 := by rw [hw4]; exact (Below.refl _ _).alloc (Nat.le_refl _) _
  have hz4 : w4.heap.size = e1 + 2 := by rw [hw4]; simp [hz3]
  have hr3 : w3.heap[e1]? = some (.cells #[.int .u8 49] 5 (1, 2)) := by rw [hw3, he1]; exact heap_alloc_new w2 _
  have hr4 : w4.heap[e1 + 1]? = some (.cells #[.string ka, .bool false, .slice (some ⟨e1, 0, none⟩) 1 1, .string kb, .bool false, .slice none 0 0] 65 (0, 0)) := by rw [hw4, ← hz3]; exact heap_alloc_new w3 _
  have hb24 : Below w2.heap.size w2 w4 := hb3.trans (hb4.mono hb3.size)
  have hcc : ∀ i, w4.cell? ⟨e1 + 1, i, none⟩ = (#[.string ka, .bool false, .slice (some ⟨e1, 0, none⟩) 1 1, .string kb, .bool false, .slice none 0 0] : Array Value)[i]? := fun i => cell_of_row w4 (e1 + 1) i _ _ _ hr4
  have hrd : Rd w4 (some ⟨e1, 0, none⟩) 1 [49] := by
    refine ⟨rfl, by simp, .inr ⟨e1, 0, rfl, by omega, fun i hi => ?_⟩⟩
    obtain rfl : i = 0 := by omega
    exact ((hb4.cell (p := ⟨e1, 0, none⟩) (show e1 < w3.heap.size from by omega)).trans ((cell_of_row w3 e1 0 _ _ _ hr3).trans rfl))
  have hcg : CgIn w4 (some ⟨e1 + 1, 0, none⟩) 2 2 (awL e1) := by
    refine ⟨rfl, Nat.le_refl _, by omega, .inr ⟨e1 + 1, 0, rfl, by omega, fun i c hc => ?_⟩, fun c hc => ?_⟩
    · match i, hc with
      | 0, hc => cases hc; exact ⟨hcc 0, hcc 1, hcc 2⟩
      | 1, hc => cases hc; exact ⟨hcc 3, hcc 4, hcc 5⟩
    · unfold awL at hc
      simp only [List.mem_cons, List.not_mem_nil, or_false] at hc
      rcases hc with rfl | rfl
      · exact ⟨hrd, (fun e => by cases e), (show ka.size ≤ maxLen from by unfold maxLen; decide)⟩
      · exact ⟨⟨rfl, by simp, .inl rfl⟩, (fun _ => rfl), (show kb.size ≤ maxLen from by unfold maxLen; decide)⟩
  have hjl := htb.jn.dx.lt jb htb.jn.xj
  have htl := htb.mt.2.2.2.2
  have hcx : CgX (fun j => Y j ∨ (w2.heap.size ≤ j ∧ j < w4.heap.size)) w.heap.size jb tb (some ⟨e1 + 1, 0, none⟩) 2 (awL e1) := by
    refine ⟨fun b o s e _ => ?_, fun c hc b o s e hn => ?_⟩
    · cases e
      exact .inr ⟨.inr ⟨by omega, by omega⟩, by omega, by omega⟩
    · unfold awL at hc
      simp only [List.mem_cons, List.not_mem_nil, or_false] at hc
      rcases hc with rfl | rfl
      · cases e
        exact .inr ⟨.inr ⟨by omega, by omega⟩, by omega, by omega⟩
      · cases e
  have HAP := Lib.hid (tapply_c (htb.wide hb24) (by omega) (by omega) (by decide) (by rw [show usedA A1000 nmt = 0 from rfl]; omega) _ _ _ _ hcg hcx)
  have hE : (taE (Ad.load A1000 nmt).1 false nmt (awL e1)).2 = 0 := by
    unfold taE
    rw [awL_enc]
    exact awL_keep
  have hF : taF (Ad.load A1000 nmt).1 false nmt (awL e1) (fun _ => none) = awF := by
    unfold taF
    rw [hE, if_pos rfl]
    rfl
  rw [hF] at HAP
  have HE := Lib.hid hE
  have HB4 := Lib.hid (HB2.out.trans (hb24.mono HB2.out.size))
  clear y1 y2 y3 y4 y5 y6 y7 y8 hres htb hb3 hb4 hr3 hr4 hb24 hcc hrd hcg hcx hjl htl hE hF HOP HB1 HB2 hz4
  have hcv : (convert 41 41 (.slice (some ⟨w2.heap.size, 0, none⟩) 1 1)).run Try.prog (w2.alloc (.cells #[.int .u8 49] 5)) = .ok (.slice (some ⟨w2.heap.size, 0, none⟩) 1 1) (w2.alloc (.cells #[.int .u8 49] 5 (1, 2))) := Lib.run_convert_bytes_const (P := Try.prog) w2 41 5 #[.int .u8 49] 1 1 Try.underlying41 Try.underlying5
  go_wp2_with fail
  rw [← he1, ← hw3]
  rw [← hz3] at HAP
  rw [show (w3.alloc (.cells #[.string ⟨#[97]⟩, .bool false, .slice (some ⟨e1, 0, none⟩) 1 1, .string ⟨#[98]⟩, .bool false, .slice none 0 0] 65)) = w4 from hw4.symm, ← hz3]
  clear he1 hw3 hw4 hz3 hcv
  refine HAP.out.mono ?_
  rintro e5 w5 ⟨Z, sz', rfl, z1, z2, htb5, z4, z5, z6⟩
  rw [HE.out]
  obtain ⟨D5, hD5⟩ := htb5.tm
  have HD5 := Lib.hid hD5
  have HR5 := Lib.hid htb5.row
  have HB5 := Lib.hid (HB4.out.trans z5)
  have hfa : awF ka = some [49] := by decide
  have hgt := tget_c hD5 htb5.row ka (by unfold maxLen; decide) (by rw [hfa]; decide)
  rw [hfa] at hgt
  simp only [Option.isSome_some, Option.getD_some] at hgt
  have HGT := Lib.hid hgt
  clear hgt z1 z2 htb5 z4 z5 z6 hD5 HAP HE
  go_wp2_with fail
  refine HGT.out.mono ?_
  rintro e6 w6 ⟨v6, rfl, ho6, hb6⟩
  obtain ⟨a6, n6, c6, rfl, -, -, -, -, hr6, -⟩ := ho6.form (by simp)
  have hst := run_str (cap := c6) hr6
  rw [show str [49] = ⟨#[49]⟩ from rfl] at hst
  have HD6 := Lib.hid (HD5.out.below hb6)
  have HR6 := Lib.hid (show TRow w6 tb _ m _ from (hb6.block tb (Array.getElem?_eq_some_iff.1 HR5.out).1).trans HR5.out)
  have HB6 := Lib.hid (HB5.out.trans (hb6.mono HB5.out.size))
  obtain ⟨ll, l1, l2, l3⟩ := HD6.out.ks
  have hl2 := len_two l1 (x := ka) (y := kb) (by decide) fun s => (l2 s).trans (awF_some s)
  have HKY := Lib.hid (tkeys_c HD6.out HR6.out ⟨#[]⟩ ka 9 (by omega) (fun s hs => by rcases (awF_some s).1 hs with rfl | rfl <;> decide))
  clear ho6 hb6 HGT HD5 HR5 HB5 l1 l2 l3 hl2
  go_wp2_with fail
  refine HKY.out.mono ?_
  rintro e7 w7 ⟨cs, a7, c7, k1, k2, k3, rfl, k5, k6⟩
  have hcs := len_one k1 (x := kb) fun s => (k2 s).trans (kyP_ab s)
  rw [hcs]
  have HLN := Lib.hid (tlen_c (HD6.out.below k6) (show TRow w7 tb _ m _ from (k6.block tb (Array.getElem?_eq_some_iff.1 HR6.out).1).trans HR6.out))
  have HB7 := Lib.hid (HB6.out.trans (k6.mono HB6.out.size))
  clear k1 k2 k3 k5 k6 hcs HKY hst
  go_wp2_with fail
  refine HLN.out.mono ?_
  rintro e8 w8 ⟨⟨l, l1, l2, rfl⟩, rfl⟩
  rw [len_two l1 (x := ka) (y := kb) (by decide) fun s => (l2 s).trans (awF_some s)]
  clear l1 l2 HLN
  go_wp2_with fail
  go_ret
  exact ⟨rfl, HB7.out⟩
end Go.Proofs.Ytihbgigledmliaa
