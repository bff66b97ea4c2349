/-
  A disk in memory is the document's: Names.
-/
import Derived.Test.YtmomdfmilelilaaDoorDks
import Derived.Sort.OwnSorted
import Derived.Maps.RangeWalk
namespace Go.Proofs.YtmomdfmilelilaaDoor
open Go.RowKit Go.Maps Go.Sort
set_option linter.unusedVariables false
theorem info_str : (Tryd.prog.info? 9).map (fun i => (i.zero, i.size, i.bytes)) = some (some (.string ⟨#[]⟩), 1, 16) := by kernel_rfl
/-- a row of strings that the call owns -/
abbrev OwnS (w : World) (B : Nat) (v : Value) (cs : List ByteArray) : Prop := w.ownsRow B 9 1 v cs.length (cs.map Value.string)
theorem wpList_pushS {w : World} {ops : Array Oper} {rest : List Oper} {o : Oper} {a : Act} {Q : Exit → Act → World → Prop} (hgd : o.guard = none) (s x : Operand)
    (ho : o.op = .call { callee := .builtin .append, args := #[s, x], argTypes := #[77, 77] })
    (B : Nat) (v : Value) (cs : List ByteArray) (y : ByteArray) (hs : a.eval s = v) (hown : OwnS w B v cs) (hB : B ≤ w.heap.size) (hx : a.eval x = .slice (some ⟨w.heap.size, 0, none⟩) 1 1)
    (hlen : cs.length + 1 ≤ 1000000000)
    (h : ∀ v' w', OwnS w' B v' (cs ++ [y]) → (w.alloc (.cells #[.string y] 9)).grownBy w' v.ownBlock → wpList Tryd.prog ops Q rest (a.put o.dst v') w') :
    wpList Tryd.prog ops Q (o :: rest) a (w.alloc (.cells #[.string y] 9)) := by
  obtain ⟨i0, hi, hz0, hz1, hz2⟩ := info_parts info_str
  have hal : OwnS (w.alloc (.cells #[.string y] 9)) B v cs := World.ownsRow.alloc hown _
  refine wpList_append_own _ hgd s x 77 ho B 9 i0 (.string ⟨#[]⟩) 1 16 Tryd.underlying77 hi hz0 hz1 hz2 rfl (by decide) v cs.length (cs.map Value.string) hs hal ⟨w.heap.size, 0, none⟩ 1 1 [.string y] hx rfl ?_ ?_ (by unfold maxLen; omega) (by omega) (by simp; omega) ?_
  · intro j u hj
    rw [Addr.add_mid, Nat.zero_add, cell_of_row _ _ _ _ _ _ (heap_new _ _)]
    simpa using hj
  · intro u hu
    simp only [List.mem_singleton] at hu
    subst hu; rfl
  · intro v' w' h1 h2 _
    refine h v' w' ?_ h2
    have e : (cs ++ [y]).length = cs.length + 1 := by simp
    unfold OwnS
    rw [e, List.map_append]
    exact h1
def hasP (head s : ByteArray) : Bool := Lib.hasPrefix s.data.toList head.data.toList
/-- the names that begin so, in order -/
def namesF (l : Fls) (head : ByteArray) : List ByteArray := (l.map (·.1)).filter (hasP head)
theorem encS (s : ByteArray) : Go.Proofs.encStr s.data.toList = .string s := rfl
theorem srt_map : ∀ {l : Fls} (head : ByteArray), Srt l → (namesF l head).Pairwise (fun a b => a.data.toList < b.data.toList)
  | l, head, h => by
    unfold namesF
    exact (List.pairwise_map.2 h).filter _
theorem mem_namesF {l : Fls} {head s : ByteArray} : s ∈ namesF l head ↔ (lookF l s).isSome = true ∧ hasP head s = true := by
  unfold namesF
  rw [List.mem_filter, List.mem_map]
  constructor
  · rintro ⟨⟨x, hx, rfl⟩, hp⟩
    refine ⟨?_, hp⟩
    cases e : lookF l x.1 with
    | some z => rfl
    | none => exact absurd rfl (lookF_none e x hx)
  · rintro ⟨hl, hp⟩
    cases e : lookF l s with
    | none => rw [e] at hl; cases hl
    | some z => exact ⟨⟨(s, z), lookF_mem e, rfl⟩, hp⟩
theorem names_sorted {l : Fls} {head : ByteArray} {cs : List ByteArray} (hs : Srt l) (hn : cs.Nodup) (hm : ∀ s, s ∈ cs ↔ (lookF l s).isSome = true ∧ hasP head s = true) : (cs.map (·.data.toList)).mergeSort (fun x y => decide (x ≤ y)) = (namesF l head).map (·.data.toList) := by
  have inj : ∀ a b : ByteArray, a.data.toList = b.data.toList → a = b := fun a b => ba_ext
  have hp := srt_map head hs
  have hp2 : ((namesF l head).map (·.data.toList)).Pairwise (fun a b => a < b) := List.pairwise_map.2 hp
  have hnd : (namesF l head).Nodup := hp.imp fun {a b} h e => by rw [e] at h; exact List.lt_irrefl _ h
  have hperm : cs.Perm (namesF l head) := (List.perm_ext_iff_of_nodup hn hnd).2 fun s => (hm s).trans mem_namesF.symm
  refine List.Perm.eq_of_pairwise (le := fun a b => decide (a ≤ b) = true) (fun a b _ _ h1 h2 => ?_) (List.pairwise_mergeSort (fun a b c h1 h2 => ?_) (fun a b => ?_) _) (hp2.imp fun {a b} h => ?_) ((List.mergeSort_perm _ _).trans (hperm.map _))
  · simp only [decide_eq_true_eq] at h1 h2
    exact List.le_antisymm h1 h2
  · simp only [decide_eq_true_eq] at h1 h2 ⊢
    exact List.le_trans h1 h2
  · simp only [Bool.or_eq_true, decide_eq_true_eq]
    exact List.le_total a b
  · simp only [decide_eq_true_eq]
    exact List.le_of_lt h
/-- what Names answers -/
def NmT (l : Fls) (head : ByteArray) (w : World) (e : Ending) (w' : World) : Prop := ∃ a n c, e = .returned (.tuple #[.slice a n c, .int .i64 0]) ∧ OwnS w' w.heap.size (.slice a n c) (namesF l head) ∧ n = (namesF l head).length ∧ Below w.heap.size w w'
/-- so far as the map has told its names -/
structure NmR (S : Dsk) (head : ByteArray) (b : Nat) (w : World) (v : Value) (wr : World) : Prop where
  ex : ∃ left cnt cs, wr.ranges Tryd.prog 9 fileR b w.heap.size S.n S.D left cnt ∧ OwnS wr (w.heap.size + 1) v cs ∧ cs.Nodup ∧ (∀ s, s ∈ cs ↔ (S.at s).isSome = true ∧ left (keyS s) = false ∧ hasP head s = true) ∧ cs.length + cnt ≤ Maps.size S.D
  bel : Below w.heap.size w wr
  sz : w.heap.size + 1 ≤ wr.heap.size
theorem keyS_same (s x : ByteArray) : (keyS s).sameKey (keyS x) = decide (s = x) := by
  by_cases e : s = x
  · subst e
    rw [decide_eq_true rfl]
    exact WideAt.sameKey_self (a := keyS s) (by trivial)
  · rw [decide_eq_false e]
    cases h : (keyS s).sameKey (keyS x) with
    | false => rfl
    | true => exact absurd (keyS_inj (WideAt.sameKey_eq h)) e
theorem NmR.start {B d : Nat} {S : Dsk} {b : Nat} {w w0 : World} (head : ByteArray) (h : DK B d S w) (hrg : w0.ranges Tryd.prog 9 fileR b w.heap.size S.n S.D (Maps.has S.D) (Maps.size S.D)) (hg : w.grownBy w0 none) (hs : w0.heap.size = w.heap.size + 1) : NmR S head b w (.slice none 0 0) w0 :=
  ⟨⟨_, _, [], hrg, World.ownsRow_nil _ _ _ _, List.nodup_nil, fun s => ⟨fun h => (by cases h), fun ⟨h1, h2, _⟩ => (by rw [h.rest.has, h1] at h2; cases h2)⟩, by simp⟩, (Below.refl _ _).grown hg (Nat.le_refl _) (by simp), by omega⟩
theorem fileR_invP (v : Value) (y : DU × List MemPlace) (h : fileR v = some y) : ∃ c : Option Nat, v = ptrOf c := by
  rcases fileR_inv (d := y.1) (ps := y.2) h with ⟨rfl, _⟩ | ⟨b, rfl, _⟩
  · exact ⟨none, rfl⟩
  · exact ⟨some b, rfl⟩
/-- the iterator has told a name -/
theorem NmR.told {B d : Nat} {S : Dsk} {b : Nat} {w w1 : World} {head : ByteArray} {left : Lit → Bool} {cnt1 : Nat} {cs : List ByteArray} {x : ByteArray} {kl : Lit} (h : DK B d S w) (hkey : keyOf Tryd.prog 9 (.string x) = some kl) (hl : left kl = true) {y : DU × List MemPlace} (hat : ∀ zd, S.D.atKey kl zd = y.1)
    (hrg1 : w1.ranges Tryd.prog 9 fileR b w.heap.size S.n S.D (fun z => left z && !z.sameKey kl) cnt1) (hmem : ∀ s, s ∈ cs ↔ (S.at s).isSome = true ∧ left (keyS s) = false ∧ hasP head s = true) (p : Bool) (hp : hasP head x = p) :
    kl = keyS x ∧ (S.at x).isSome = true ∧ x ∉ cs ∧ (∀ s, s ∈ (if p then cs ++ [x] else cs) ↔ (S.at s).isSome = true ∧ (fun z : Lit => left z && !z.sameKey kl) (keyS s) = false ∧ hasP head s = true) := by
  obtain ⟨s, e1, e2, e3⟩ := WideMaps.string_of_keyOf Tryd.underlying9 hkey
  obtain rfl : x = s := by simpa using e1
  have ek : kl = keyS x := e2
  subst ek
  have hax : (S.at x).isSome = true := by
    rw [← h.rest.has]
    cases hh : Maps.has S.D (keyS x) with
    | true => rfl
    | false =>
      have a1 := hat .nil
      have a2 := hat (.lit (.bool true))
      rw [atKey_of_not_has hh] at a1 a2
      rw [← a1] at a2
      cases a2
  have hnx : x ∉ cs := fun hm => by
    have := ((hmem x).1 hm).2.1
    rw [hl] at this
    cases this
  refine ⟨rfl, hax, hnx, fun s => ?_⟩
  simp only [keyS_same]
  by_cases es : s = x
  · subst es
    cases p with
    | true => simp [hax, hp]
    | false => simp [hnx, hax, hp]
  · have h1 := hmem s
    cases p with
    | true => simp [es, h1]
    | false => simp [es, h1]
set_option maxRecDepth 100000 in
set_option maxHeartbeats 8000000 in
theorem dnames_loop {B d m : Nat} {S : Dsk} {w : World} (h : DK B d S w) (hd : S.down = false) (hm : S.mb = some m) (head : ByteArray) (hz : Maps.size S.D ≤ 100000) (hns : ∀ s, (S.at s).isSome = true → s.size ≤ 160) {l : Fls} (hl : JS S l) :
    Calls Tryd.prog 32 #[.pointer (some ⟨d, 0, none⟩), .string head] w (NmT l head w) := by
  have HR := Lib.hid (dready_c h)
  rw [hd] at HR
  have c1 := h.cells.2.1
  rw [hm] at c1
  have hmap : w.ownsMap Tryd.prog 9 fileR m S.n S.D := by
    rcases h.rest.hm with ⟨h0, _⟩ | ⟨b, h2, _, h4⟩
    · rw [hm] at h0; cases h0
    · rw [hm] at h2; cases h2; exact h4
  have HNS := Lib.hid hns
  have HL := Lib.hid hl
  have HZ := Lib.hid hz
  have HDK := Lib.hid h
  have HOM := Lib.hid hmap
  have hmw := hmap.lt
  clear h hmap hns hl hz
  go_enter Tryd.func32, Tryd.ntmps32
  go_wp2_with fail
  refine HR.out.mono ?_
  rintro e1 w1 ⟨rfl, rfl⟩
  go_wp2_with (first | (at_range; refine wpList_range_own _ rfl _ 50 rfl 9 73 mapLaw Tryd.underlying50 fileR m S.n S.D rfl HOM.out ?_; intro w0 hrg0 hg0 hs0) | fail)
  have HI := Lib.hid (NmR.start head HDK.out hrg0 hg0 hs0)
  clear hrg0 hg0 hs0 HR
  go_frame
  go_loopw [7] (fun v wr => Hid (NmR S head m w1 v wr)) (fun _ wr => wr.rangeLeft m w1.heap.size)
  case atStart => exact HI
  case round =>
    clear HI
    have HS := hrel
    obtain ⟨left, cnt, cs, hrg, hown, hnd, hmem, hcl⟩ := HS.out.ex
    have HCL := Lib.hid hcl
    have HRG := Lib.hid hrg
    have HOW := Lib.hid hown
    have HND := Lib.hid hnd
    have HMEM := Lib.hid hmem
    clear hrg hown hnd hmem hcl
    go_wp2_with (first | (at_next; refine wpList_next_ranges _ rfl _ rfl 9 mapLaw fileR Value.string ptrOf (fun key kl hk => by obtain ⟨s, e1, _, _⟩ := WideMaps.string_of_keyOf Tryd.underlying9 hk; exact ⟨s, e1⟩) fileR_invP m w1.heap.size S.n S.D left cnt rfl HRG.out ?_ ?_) | fail)
    · intro hc0 hl0
      have HL0 := Lib.hid hl0
      clear hl0
      have hB := HS.out.bel
      rcases HOW.out.2 with ⟨e7, h0⟩ | ⟨g, cap, cur, e7, hbase, hb, h1, h2, h3, h4⟩
      · subst e7
        have hcs : cs = [] := List.eq_nil_of_length_eq_zero h0
        have HB := Lib.hid hB
        have HF := Lib.hid (show namesF l head = [] from by
          have := names_sorted HL.out.ab.srt HND.out (head := head) (fun s => (HMEM.out s).trans (by rw [← HL.out.ab.look s, HL0.out]; simp [Dsk.vw]))
          rw [hcs] at this
          have h := congrArg List.length this
          simp only [List.length_map, List.map_nil, List.mergeSort_nil, List.length_nil] at h
          exact List.eq_nil_of_length_eq_zero h.symm)
        clear hB h0 hcs
        go_wp2_with fail
        refine (slices_Sort_string_none none 0 wr).mono ?_
        rintro e3 w3 ⟨rfl, rfl⟩
        go_wp2_with fail
        go_ret2
        refine ⟨none, 0, 0, rfl, ?_, ?_, HB.out⟩
        · rw [HF.out]; exact World.ownsRow_nil _ _ _ _
        · rw [HF.out]; rfl
      · subst e7
        have hh : Holds Go.Proofs.encStr wr g 0 (cs.map (·.data.toList)).toArray := holds_of_block hb (by rw [List.length_map, List.map_map]; rw [Nat.mul_one] at h4; exact h4)
        have hgs := (Array.getElem?_eq_some_iff.1 hb).1
        have hcc := HCL.out
        have hzz := HZ.out
        have HSO := Lib.hid (slices_Sort_string g 0 cap (cs.map (·.data.toList)) wr hh hgs (by rw [List.length_map]; omega))
        rw [List.length_map] at HSO
        have HB := Lib.hid hB
        have HBL := Lib.hid (show w1.heap.size + 1 ≤ g ∧ wr.heap[g]? = some (.cells cur 9 (0, 0)) ∧ cs.length ≤ cap ∧ cap ≤ maxLen ∧ cur.size = cap * 1 from ⟨hbase, hb, h1, h2, h3⟩)
        have HF := Lib.hid (names_sorted HL.out.ab.srt HND.out (head := head) (fun s => (HMEM.out s).trans (by rw [← HL.out.ab.look s, HL0.out]; simp [Dsk.vw])))
        clear hB hbase hb h1 h2 h3 h4 hh hgs hcc hzz
        go_wp2_with fail
        refine HSO.out.mono ?_
        rintro e3 w3 ⟨rfl, q, os, hw3⟩
        have HW3 := Lib.hid hw3
        clear hw3
        go_wp2_with fail
        go_ret2
        obtain ⟨k1, k2, k3, k4, k5⟩ := HBL.out
        have hlen : (namesF l head).length = cs.length := by
          have h := congrArg List.length HF.out
          simp only [List.length_map, List.length_mergeSort] at h
          exact h.symm
        refine ⟨_, _, _, rfl, ?_, hlen.symm, ?_⟩
        · rw [HW3.out, HF.out]
          have ho := ownsRow_sorted (w := wr) (base := w1.heap.size) (g := g) (cap := cap) (n := q) (os := os) (ss := cs.map (·.data.toList)) (ts := (namesF l head).map (·.data.toList)) (by rw [List.length_map, List.length_map, hlen]) (by omega) k2 (by rw [List.length_map]; exact k3) k4 k5
          rw [List.length_map, List.map_map] at ho
          unfold OwnS
          rw [hlen]
          exact ho
        · rw [HW3.out]
          exact HB.out.grown (grownBy_sorted _) HB.out.size (fun k hk => by have := Option.some.inj hk; omega)
    · intro x c kl y ps w2 cnt1 hkey hlk hv hat hrg1 hlt hg1 hs1 hen
      obtain ⟨hp, hpe⟩ : ∃ p, hasP head x = p := ⟨_, rfl⟩
      have hsz2 : w1.heap.size + 1 ≤ w2.heap.size := by rw [hs1]; exact HS.out.sz
      obtain ⟨hkl, hax, hnx, hmem2⟩ := NmR.told (y := (y, ps)) HDK.out hkey hlk hat hrg1 HMEM.out hp hpe
      have hb2 : Below w1.heap.size w1 w2 := HS.out.bel.trans ⟨hg1.os, hg1.tape, hg1.output, hg1.size, fun k hk => hg1.block k (Nat.lt_of_lt_of_le hk HS.out.bel.size) fun e => by have := Option.some.inj e; omega⟩
      have hne := row_ne_iter HOW.out HRG.out
      have hown2 : OwnS w2 (w1.heap.size + 1) u7 cs := row_keep HOW.out fun k hk => hg1.block k (World.ownsRow.lt HOW.out k hk).2 fun e => hne (by rw [← e]; exact hk.symm)
      have HOW2 := Lib.hid hown2
      have HRG2 := Lib.hid hrg1
      have HB2 := Lib.hid hb2
      have HM2 := Lib.hid hmem2
      have HNX := Lib.hid hnx
      have HXS := Lib.hid (HNS.out x hax)
      have HC2 := Lib.hid (show cs.length + 1 + cnt1 ≤ Maps.size S.D by have := HCL.out; omega)
      have HLT := Lib.hid (show w2.rangeLeft m w1.heap.size < wr.rangeLeft m w1.heap.size by rw [hrg1.left_eq, HRG.out.left_eq]; exact hlt)
      have HPE := Lib.hid hpe
      have HSZ := Lib.hid hsz2
      clear hkey hlk hv hat hrg1 hlt hg1 hs1 hpe hsz2 hkl hax hnx hmem2 hb2 hne hown2 HS HRG HOW HMEM hrel
      cases hp with
      | true =>
        go_wp2_with fail
        refine (strings_HasPrefix x head w2).mono ?_
        rintro e3 w3 ⟨rfl, rfl⟩
        rw [show Lib.hasPrefix x.data.toList head.data.toList = true from HPE.out]
        go_wp2_with fail
        refine (clone_c x w3 (Nat.le_trans HXS.out (by unfold maxLen; omega)) HXS.out).mono ?_
        rintro e4 w4 ⟨rfl, hb4⟩
        have HOW4 := Lib.hid (show OwnS w4 (w1.heap.size + 1) u7 cs from row_keep HOW2.out fun k hk => hb4.block k (World.ownsRow.lt HOW2.out k hk).2)
        have HRG4 := Lib.hid (show w4.ranges Tryd.prog 9 fileR m w1.heap.size S.n S.D _ cnt1 from HRG2.out.kept (row := none) ⟨hb4.os, hb4.tape, hb4.output, hb4.size, fun k hk _ => hb4.block k hk⟩ (by simp) (by simp))
        have HB4 := Lib.hid (HB2.out.trans (hb4.mono HB2.out.size))
        have hsz4 : w1.heap.size + 1 ≤ w4.heap.size := Nat.le_trans HSZ.out hb4.size
        have hlen4 : cs.length + 1 ≤ 1000000000 := by have h1 := HC2.out; have h2 := HZ.out; omega
        have HL4 := Lib.hid (show w4.rangeLeft m w1.heap.size < wr.rangeLeft m w1.heap.size by rw [HRG4.out.left_eq, ← HRG2.out.left_eq]; exact HLT.out)
        clear hb4 HOW2 HRG2 HB2
        go_wp2_with (at_builtin; (refine wpList_pushS rfl _ _ rfl (w1.heap.size + 1) u7 cs x rfl HOW4.out hsz4 rfl hlen4 ?_); intro v5 w5 hown5 hg5)
        have hrgA := HRG4.out.alloc (.cells #[.string x] 9)
        have hneA := row_ne_iter HOW4.out HRG4.out
        have hnlA := row_ne_low HOW4.out (b := m) (by omega)
        have hrg5 := hrgA.kept hg5 hnlA hneA
        refine ⟨Lib.hid ⟨⟨_, cnt1, cs ++ [x], hrg5, hown5, List.nodup_append.2 ⟨HND.out, by simp, fun a ha b hb e => ?_⟩, by simpa using HM2.out, by have := HC2.out; rw [List.length_append, List.length_singleton]; exact this⟩, ?_, ?_⟩, by rw [hrg5.left_eq, ← HRG4.out.left_eq]; exact HL4.out⟩
        · rw [List.mem_singleton] at hb
          subst hb
          subst e
          exact HNX.out ha
        · exact (HB4.out.alloc (by omega) _).grown hg5 (by simp; omega) fun k hk => by have := (World.ownsRow.lt HOW4.out k hk).1; omega
        · have := hg5.size
          rw [World.size_alloc] at this
          omega
      | false =>
        go_wp2_with fail
        refine (strings_HasPrefix x head w2).mono ?_
        rintro e3 w3 ⟨rfl, rfl⟩
        rw [show Lib.hasPrefix x.data.toList head.data.toList = false from HPE.out]
        go_wp2_with fail
        refine ⟨Lib.hid ⟨⟨_, cnt1, cs, HRG2.out, HOW2.out, HND.out, by simpa using HM2.out, by have := HC2.out; omega⟩, HB2.out, HSZ.out⟩, HLT.out⟩
end Go.Proofs.YtmomdfmilelilaaDoor
