/-
  The keys of a map of sums, in order.
-/
import Derived.Test.YtpppffgchgcghaaGrg
import Derived.Carry
namespace Go.Proofs.Ytpppffgchgcghaa
open Go.RowKit Go.Maps
set_option linter.unusedVariables false
def mkG : Option (Nat × Nat × Nat) → Value
  | none => .slice none 0 0
  | some (b, n, k) => .slice (some ⟨b, 0, none⟩) n k
theorem rowG_mk (v : Value) (y : DV × List MemPlace) (h : rowG v = some y) : ∃ c, v = mkG c := by
  obtain ⟨c, hc⟩ := rowG_inv v y h
  refine ⟨c, ?_⟩
  rw [hc]
  cases c <;> rfl
def dgV (xs : List Nat) : Value := .agg (cellsOf xs).toArray
/-- a sum is laid behind the call's own, and nothing else is touched -/
theorem wpList_pushE {w : World} {ops : Array Oper} {rest : List Oper} {o : Oper} {a : Act} {Q : Exit → Act → World → Prop} (hgd : o.guard = none) (s x : Operand)
    (ho : o.op = .call { callee := .builtin .append, args := #[s, x], argTypes := #[38, 38] })
    (B : Nat) (v : Value) (ds : Ds) (d : List Nat) (hd : D32 d) (hs : a.eval s = v) (hown : OwE w B v ds) (hB : B ≤ w.heap.size) (hx : a.eval x = .slice (some ⟨w.heap.size, 0, none⟩) 1 1)
    (hlen : ds.length + 1 ≤ 4398046511104)
    (h : ∀ v' w', OwE w' B v' (ds ++ [d]) → (w.alloc (.cells (cellsOf d).toArray 42)).grownBy w' v.ownBlock → wpList Try.prog ops Q rest (a.put o.dst v') w') :
    wpList Try.prog ops Q (o :: rest) a (w.alloc (.cells (cellsOf d).toArray 42)) := by
  obtain ⟨i0, z, hi, hz0, hz1, hz2, hz3⟩ := dtA.info
  refine wpList_plain hgd fun K hK => ?_
  refine wp_append_own _ s x 38 ho B 42 i0 z 32 32 dtA.und hi hz0 hz1 hz2 hz3 (by decide) v ds.length (cellsOf ds.flatten) hs (hown.alloc _) ⟨w.heap.size, 0, none⟩ 1 1 (cellsOf d) hx (by rw [cellsOf_length, hd.1]) ?_ (cellsOf_one _) (by unfold maxLen; omega) (by omega) (by simp; omega) ?_
  · intro j u hj
    rw [Addr.add_mid, Nat.zero_add, cell_of_row _ _ _ _ _ _ (heap_new _ _)]
    simpa using hj
  · intro v' w' h1 h2 _
    refine hK _ _ (h v' w' ?_ h2)
    have e : (ds ++ [d]).length = ds.length + 1 := by simp
    unfold OwE OwnD
    rw [e, List.flatten_append, List.flatten_cons, List.flatten_nil, List.append_nil, cellsOf_append]
    exact h1
/-- sums that stand in order, each once -/
def SrtD (ds : Ds) : Prop := ds.Pairwise fun x y => lexc x y < 0
theorem sortS_srt {ds : Ds} (hn : ds.Nodup) : SrtD (sortS ds) := by
  have h1 : (sortS ds).Pairwise (fun x y => (!decide (lexc y x < 0)) = true) := List.pairwise_mergeSort (fun x y z h1 h2 => by
      simp only [Bool.not_eq_eq_eq_not, Bool.not_true, decide_eq_false_iff_not, Int.not_lt] at *
      have := lexc_trans x y z (by rw [lexc_anti]; omega) (by rw [lexc_anti]; omega)
      rw [lexc_anti]
      omega) (fun x y => by
      rcases lexc_val x y with h | h | h
      · rw [lexc_anti x y, h]; simp
      · rw [lexc_anti x y, h]; simp
      · rw [lexc_anti x y, h]; simp) ds
  have h2 : (sortS ds).Nodup := (sortS_perm ds).nodup_iff.2 hn
  refine (h1.and h2).imp fun {x y} ⟨a, b⟩ => ?_
  simp only [Bool.not_eq_eq_eq_not, Bool.not_true, decide_eq_false_iff_not, Int.not_lt] at a
  rw [lexc_anti] at a
  have : lexc x y ≠ 0 := fun e => b ((lexc_zero _ _).1 e)
  omega
/-- so far as the map has told its keys -/
structure SrI (R : Value → Option (DV × List MemPlace)) (m n : Nat) (D : DV) (b : List Nat → Bool) (B r : Nat) (w : World) (v : Value) (wr : World) : Prop where
  ex : ∃ left cnt cs, wr.ranges Try.prog 42 R m r n D left cnt ∧ OwE wr B v cs ∧ (∀ s ∈ cs, D32 s) ∧ cs.Nodup ∧ (∀ s, D32 s → (s ∈ cs ↔ b s = true ∧ left (keyD s) = false)) ∧ cs.length + cnt ≤ Maps.size D
  bel : Below w.heap.size w wr
  sz : r + 1 ≤ wr.heap.size
set_option maxRecDepth 100000 in
theorem SrI.told {D : DV} {b : List Nat → Bool} (hvs : ∀ s, D32 s → Maps.has D (keyD s) = b s) {left : Lit → Bool} {cs : List (List Nat)} {x : List Nat} {kl : Lit} (hkey : keyOf Try.prog 42 (dgV x) = some kl) (hl : left kl = true) {y : DV × List MemPlace} (hat : ∀ zd, D.atKey kl zd = y.1)
    (hmem : ∀ s, D32 s → (s ∈ cs ↔ b s = true ∧ left (keyD s) = false)) : D32 x ∧ b x = true ∧ x ∉ cs ∧ ∀ s, D32 s → (s ∈ cs ++ [x] ↔ b s = true ∧ (fun z : Lit => left z && !z.sameKey kl) (keyD s) = false) := by
  obtain ⟨xs, hxs, e1⟩ := key_inv hkey
  have e2 : x = xs := cellsOf_inj (by simpa [dgV] using e1)
  subst e2
  have ek : kl = keyD x := by
    have := hkey.symm.trans (keyOkD hxs)
    exact Option.some.inj this
  subst ek
  have hb : b x = true := by
    rw [← hvs x hxs]
    cases hh : Maps.has D (keyD x) with
    | true => rfl
    | false =>
      have a1 := hat .nil
      have a2 := hat (.lit (.bool true))
      rw [atKey_of_not_has hh] at a1 a2
      rw [← a1] at a2
      cases a2
  have hnx : x ∉ cs := fun hm => by
    have := ((hmem x hxs).1 hm).2
    rw [hl] at this
    cases this
  refine ⟨hxs, hb, hnx, fun s hs => ?_⟩
  have h1 := hmem s hs
  simp only [List.mem_append, List.mem_singleton, keyD_same hs hxs]
  by_cases es : s = x
  · subst es
    simp [hb]
  · simp [es, h1]
/-- what is told: the keys in order -/
def KeysD (b : List Nat → Bool) (w : World) (e : Ending) (w' : World) : Prop := ∃ a n cap ds, e = .returned (.slice a n cap) ∧ OwE w' w.heap.size (.slice a n cap) ds ∧ SrtD ds ∧ (∀ s ∈ ds, D32 s) ∧ (∀ s, D32 s → (s ∈ ds ↔ b s = true)) ∧ Below w.heap.size w w'
set_option maxRecDepth 100000 in
set_option maxHeartbeats 8000000 in
theorem sortb_some {m n : Nat} {D : DV} {b : List Nat → Bool} {w : World} (hmp : w.ownsMap Try.prog 42 setG m n D) (hvs : ∀ s, D32 s → Maps.has D (keyD s) = b s) (hz : Maps.size D ≤ 1000000000) :
    Calls Try.prog 43 #[.map (some m), .func (.func 37) #[] #[]] w (KeysD b w) := by
  have hml := hmp.lt
  obtain ⟨c, hc⟩ : ∃ c, c = Maps.size D := ⟨_, rfl⟩
  have hln : ∀ ty, (Builtin.len_ #[74] ty #[.map (some m)]).run Try.prog w = .ok (.int .i64 (c : Int)) w := fun ty => by rw [hc]; exact hmp.len Try.underlying74 ty
  obtain ⟨i0, z, hi, hz0, hz1, hz2, hz3⟩ := dtA.info
  have hcb : c ≤ 1000000000 := by omega
  have HMP := Lib.hid hmp
  have HVS := Lib.hid hvs
  have HC := Lib.hid hc
  have HI := Lib.hid (show dtA.info.choose = dtA.info.choose from rfl)
  clear hmp hvs hc hz
  go_enter Try.func43, Try.ntmps43
  go_upto_region 2 with (first | (refine wpList_make_own _ rfl _ _ 38 rfl w.heap.size 42 i0 z 32 dtA.und hi hz0 hz1 .i64 .i64 _ c (by rfl) (by rfl) rfl (by rw [hz2]; omega) (by unfold maxLen; omega) (Nat.le_refl _) ?_; intro w1 ho1 hg1) | fail)
  have hb1 : Below w.heap.size w w1 := (Below.refl _ _).grown hg1 (Nat.le_refl _) (fun k e => by cases e)
  obtain ⟨g0, hg0e⟩ : ∃ g0, g0 = w.heap.size := ⟨_, rfl⟩
  have hgo1 : g0 < w1.heap.size := by rw [hg0e]; exact (World.ownsRow.lt ho1 _ rfl).2
  have HOM := Lib.hid (show w1.ownsMap Try.prog 42 setG m n D from by
    obtain ⟨es, cl, hh, r⟩ := HMP.out
    exact ⟨es, cl, (hb1.block m hml).trans hh, r⟩)
  have HO1 := Lib.hid ho1
  have HB1 := Lib.hid hb1
  have HG0 := Lib.hid hg0e
  have hln := HC.out
  clear hln
  rw [← hg0e]
  clear ho1 hg1 hb1 hg0e hi hz0 hz1 hz2 hz3
  go_wp2_with (first | (at_range; refine wpList_range_own _ rfl _ 74 rfl 42 84 gLaw Try.underlying74 setG m n D rfl HOM.out ?_; intro w0 hrg0 hg0 hs0) | fail)
  have HP0 := Lib.hid (show SrI setG m n D b w.heap.size w1.heap.size w (.slice (some ⟨g0, 0, none⟩) 0 c) w0 from ⟨⟨_, _, [], hrg0, by rw [HG0.out]; exact World.ownsRow.kept HO1.out hg0 (by right; simp [Value.ownBlock]), by simp, List.nodup_nil, fun s hs => ⟨fun h => (by cases h), fun ⟨h1, h2⟩ => (by rw [HVS.out s hs, h1] at h2; cases h2)⟩, by simp⟩, HB1.out.grown hg0 HB1.out.size (fun k e => by cases e), by omega⟩)
  have HSW := Lib.hid HB1.out.size
  clear hrg0 hg0 hs0 HO1
  try go_frame
  go_loopw [5] (fun v wr => Hid (SrI setG m n D b w.heap.size w1.heap.size w v wr)) (fun _ wr => wr.rangeLeft m w1.heap.size)
  case atStart => exact HP0
  case round =>
    clear HP0
    have HS := hrel
    obtain ⟨left, cnt, cs, hrg, hown, hcd, hnd, hmem, hcl⟩ := HS.out.ex
    have HCL := Lib.hid hcl
    have HRG := Lib.hid hrg
    have HOW := Lib.hid hown
    have HCD := Lib.hid hcd
    have HND := Lib.hid hnd
    have HMEM := Lib.hid hmem
    have HBE := Lib.hid HS.out.bel
    have HSZ := Lib.hid HS.out.sz
    clear hrg hown hcd hnd hmem hcl HS hrel
    go_wp2_with (first | (at_next; refine wpList_next_ranges _ rfl _ rfl 42 gLaw setG dgV (fun _ : Unit => Value.agg #[]) (fun key kl hk => by obtain ⟨s, _, e1⟩ := key_inv hk; exact ⟨s, e1⟩) (fun v y h => ⟨(), setG_inv v y h⟩) m w1.heap.size n D left cnt rfl HRG.out ?_ ?_) | fail)
    · intro hc0 hl0
      obtain ⟨av, nv, cv, ev⟩ : ∃ av nv cv, u5 = .slice av nv cv := by
        rcases HOW.out.2 with ⟨e, _⟩ | ⟨_, _, _, e, _⟩
        · exact ⟨_, _, _, e⟩
        · exact ⟨_, _, _, e⟩
      subst ev
      have HL0 := Lib.hid (show ∀ s, D32 s → (s ∈ cs ↔ b s = true) from fun s hs => by rw [HMEM.out s hs]; simp [hl0])
      have HSO := Lib.hid (sortd_c HOW.out HCD.out (by have h1 := HCL.out; have h2 := HC.out; omega))
      clear hc0 hl0
      go_wp2_with fail
      refine HSO.out.mono ?_
      rintro e3 w3 ⟨rfl, ho3, hg3⟩
      have HO3 := Lib.hid ho3
      have HG3 := Lib.hid hg3
      clear ho3 hg3 HSO
      go_wp2_with fail
      go_ret
      refine ⟨av, nv, cv, sortS cs, rfl, HO3.out, sortS_srt HND.out, fun s hs => HCD.out s ((sortS_perm cs).mem_iff.1 hs), fun s hs => by rw [(sortS_perm cs).mem_iff]; exact HL0.out s hs, HBE.out.grown HG3.out HBE.out.size (fun k hk => (HOW.out.block k hk).1)⟩
    · intro x kl y ps w2 cnt1 hkey hlk hv hat hrg1 hlt hg1 hs1 hen
      have hen2 : (Instr.entry (.pointer (some ⟨w1.heap.size, 0, none⟩))).run Try.prog w2 = .ok (.tuple #[.agg (cellsOf x).toArray, .agg #[]]) w2 := hen
      obtain ⟨hxd, hbx, hnx, hmem2⟩ := SrI.told (y := (y, ps)) (D := D) HVS.out hkey hlk hat HMEM.out
      have hne := row_ne_iter HOW.out HRG.out
      have hown2 : OwE w2 w.heap.size u5 cs := ownE_keep HOW.out fun k hk => hg1.block k (HOW.out.block k hk).2 fun e => hne (by rw [← e]; exact hk.symm)
      have hb2 : Below w.heap.size w w2 := HBE.out.trans ⟨hg1.os, hg1.tape, hg1.output, hg1.size, fun k hk => hg1.block k (Nat.lt_of_lt_of_le hk HBE.out.size) fun e => by have := Option.some.inj e; have := HSW.out; omega⟩
      have HOW2 := Lib.hid hown2
      have HRG2 := Lib.hid hrg1
      have HB2 := Lib.hid hb2
      have HM2 := Lib.hid hmem2
      have HNX := Lib.hid hnx
      have HSX := Lib.hid hxd
      have HC2 := Lib.hid (show cs.length + 1 + cnt1 ≤ Maps.size D by have := HCL.out; omega)
      have HLT := Lib.hid (show w2.rangeLeft m w1.heap.size < wr.rangeLeft m w1.heap.size by rw [hrg1.left_eq, HRG.out.left_eq]; exact hlt)
      have HS2 := Lib.hid (show w1.heap.size + 1 ≤ w2.heap.size by rw [hs1]; exact HSZ.out)
      have HEN := Lib.hid hen2
      clear hkey hlk hv hat hrg1 hlt hg1 hs1 hen hbx hnx hxd hmem2 hb2 hne hown2 HRG HOW HMEM
      simp only [dgV]
      obtain ⟨Y, hY⟩ : ∃ Y, Y = w2.heap.size := ⟨_, rfl⟩
      go_upto_region 5 with (first | (refine wpList_store_row (by rfl) 42 _ _ (by rfl) w2.heap.size (cellsOf x).toArray (by rfl) (by rfl) 42 (cellsOf zs32).toArray (by exact heap_new _ _) (infoG HSX.out) (zsizeG HSX.out) (cellsOf_all _) ?_) | fail)
      have K2 := Lib.hid (fun (Z : Obj) (hZ : Z = .cells (cellsOf zs32).toArray 42 (0, 0)) => show Brow ((w2.alloc Z).setRow w2.heap.size (cellsOf x).toArray) w2.heap.size 42 x ∧ Below w2.heap.size w2 ((w2.alloc Z).setRow w2.heap.size (cellsOf x).toArray) from by
        subst hZ
        exact ⟨(Brow.new w2 42 zs32).setRow, ((Below.refl _ _).alloc (Nat.le_refl _) _).setRow (Nat.le_refl _) _⟩)
      refine gen_code (F := fun W => Brow W w2.heap.size 42 x ∧ Below w2.heap.size w2 W) ⟨(K2.out _ rfl).1, (K2.out _ rfl).2⟩ ?_
      rintro wB ⟨hxB, hbB⟩
      rw [← hY] at hxB ⊢
      have HLX := Lib.hid (run_cell_dig wB Y x HSX.out hxB)
      have HOW3 := Lib.hid (show OwE wB w.heap.size u5 cs from HOW2.out.below hbB (Nat.le_refl _))
      have HRG3 := Lib.hid (HRG2.out.kept (row := none) (w' := wB) ⟨hbB.os, hbB.tape, hbB.output, hbB.size, fun k hk _ => hbB.block k hk⟩ (by simp) (by simp))
      have HB3 := Lib.hid (HB2.out.trans (hbB.mono HB2.out.size))
      have HS3 := Lib.hid (show w1.heap.size + 1 ≤ wB.heap.size from Nat.le_trans HS2.out hbB.size)
      have HL3 := Lib.hid (show wB.rangeLeft m w1.heap.size < wr.rangeLeft m w1.heap.size by rw [HRG3.out.left_eq, ← HRG2.out.left_eq]; exact HLT.out)
      have hlen4 : cs.length + 1 ≤ 4398046511104 := by have h1 := HC2.out; have h2 := HC.out; omega
      have hszB : w.heap.size ≤ wB.heap.size := HB3.out.size
      clear K2 hxB hbB HRG2 HOW2 HEN hY
      go_wp2_with (first | (refine wpList_loadg 42 _ (by rfl) (by rfl) (.pointer (some ⟨Y, 0, none⟩)) (by rfl) (.agg (cellsOf x).toArray) HLX.out ?_) | (refine wpList_dlay dtA rfl _ rfl wB.heap.size rfl _ rfl x HSX.out (by rfl) ?_) | (at_builtin; (refine wpList_pushE rfl _ _ rfl w.heap.size u5 cs x HSX.out rfl HOW3.out hszB rfl hlen4 ?_); intro v5 w5 hown5 hg5) | fail)
      have hrgA := HRG3.out.alloc (.cells (cellsOf x).toArray 42)
      have hneA := row_ne_iter HOW3.out HRG3.out
      have hnlA := row_ne_low HOW3.out (b := m) hml
      have hrg5 := hrgA.kept hg5 hnlA hneA
      refine ⟨Lib.hid ⟨⟨_, cnt1, cs ++ [x], hrg5, hown5, fun s hs => ?_, List.nodup_append.2 ⟨HND.out, by simp, fun a ha b hb e => ?_⟩, HM2.out, by have := HC2.out; rw [List.length_append, List.length_singleton]; exact this⟩, ?_, ?_⟩, by rw [hrg5.left_eq, ← HRG3.out.left_eq]; exact HL3.out⟩
      · rcases List.mem_append.1 hs with hs | hs
        · exact HCD.out s hs
        · rw [List.mem_singleton] at hs
          rw [hs]
          exact HSX.out
      · rw [List.mem_singleton] at hb
        subst hb
        subst e
        exact HNX.out ha
      · exact (HB3.out.alloc hszB _).grown hg5 (by simp; omega) fun k hk => (HOW3.out.block k hk).1
      · have := hg5.size
        rw [World.size_alloc] at this
        have := HS3.out
        omega
set_option maxRecDepth 100000 in
set_option maxHeartbeats 8000000 in
theorem sortg_some {m n : Nat} {D : DV} {b : List Nat → Bool} {w : World} (hmp : w.ownsMap Try.prog 42 rowG m n D) (hvs : ∀ s, D32 s → Maps.has D (keyD s) = b s) (hz : Maps.size D ≤ 1000000000) :
    Calls Try.prog 36 #[.map (some m), .func (.func 37) #[] #[]] w (KeysD b w) := by
  have hml := hmp.lt
  obtain ⟨c, hc⟩ : ∃ c, c = Maps.size D := ⟨_, rfl⟩
  have hln : ∀ ty, (Builtin.len_ #[70] ty #[.map (some m)]).run Try.prog w = .ok (.int .i64 (c : Int)) w := fun ty => by rw [hc]; exact hmp.len Try.underlying70 ty
  obtain ⟨i0, z, hi, hz0, hz1, hz2, hz3⟩ := dtA.info
  have hcb : c ≤ 1000000000 := by omega
  have HMP := Lib.hid hmp
  have HVS := Lib.hid hvs
  have HC := Lib.hid hc
  have HI := Lib.hid (show dtA.info.choose = dtA.info.choose from rfl)
  clear hmp hvs hc hz
  go_enter Try.func36, Try.ntmps36
  go_upto_region 2 with (first | (refine wpList_make_own _ rfl _ _ 38 rfl w.heap.size 42 i0 z 32 dtA.und hi hz0 hz1 .i64 .i64 _ c (by rfl) (by rfl) rfl (by rw [hz2]; omega) (by unfold maxLen; omega) (Nat.le_refl _) ?_; intro w1 ho1 hg1) | fail)
  have hb1 : Below w.heap.size w w1 := (Below.refl _ _).grown hg1 (Nat.le_refl _) (fun k e => by cases e)
  obtain ⟨g0, hg0e⟩ : ∃ g0, g0 = w.heap.size := ⟨_, rfl⟩
  have hgo1 : g0 < w1.heap.size := by rw [hg0e]; exact (World.ownsRow.lt ho1 _ rfl).2
  have HOM := Lib.hid (show w1.ownsMap Try.prog 42 rowG m n D from by
    obtain ⟨es, cl, hh, r⟩ := HMP.out
    exact ⟨es, cl, (hb1.block m hml).trans hh, r⟩)
  have HO1 := Lib.hid ho1
  have HB1 := Lib.hid hb1
  have HG0 := Lib.hid hg0e
  have hln := HC.out
  clear hln
  rw [← hg0e]
  clear ho1 hg1 hb1 hg0e hi hz0 hz1 hz2 hz3
  go_wp2_with (first | (at_range; refine wpList_range_own _ rfl _ 70 rfl 42 38 gLaw Try.underlying70 rowG m n D rfl HOM.out ?_; intro w0 hrg0 hg0 hs0) | fail)
  have HP0 := Lib.hid (show SrI rowG m n D b w.heap.size w1.heap.size w (.slice (some ⟨g0, 0, none⟩) 0 c) w0 from ⟨⟨_, _, [], hrg0, by rw [HG0.out]; exact World.ownsRow.kept HO1.out hg0 (by right; simp [Value.ownBlock]), by simp, List.nodup_nil, fun s hs => ⟨fun h => (by cases h), fun ⟨h1, h2⟩ => (by rw [HVS.out s hs, h1] at h2; cases h2)⟩, by simp⟩, HB1.out.grown hg0 HB1.out.size (fun k e => by cases e), by omega⟩)
  have HSW := Lib.hid HB1.out.size
  clear hrg0 hg0 hs0 HO1
  try go_frame
  go_loopw [5] (fun v wr => Hid (SrI rowG m n D b w.heap.size w1.heap.size w v wr)) (fun _ wr => wr.rangeLeft m w1.heap.size)
  case atStart => exact HP0
  case round =>
    clear HP0
    have HS := hrel
    obtain ⟨left, cnt, cs, hrg, hown, hcd, hnd, hmem, hcl⟩ := HS.out.ex
    have HCL := Lib.hid hcl
    have HRG := Lib.hid hrg
    have HOW := Lib.hid hown
    have HCD := Lib.hid hcd
    have HND := Lib.hid hnd
    have HMEM := Lib.hid hmem
    have HBE := Lib.hid HS.out.bel
    have HSZ := Lib.hid HS.out.sz
    clear hrg hown hcd hnd hmem hcl HS hrel
    go_wp2_with (first | (at_next; refine wpList_next_ranges _ rfl _ rfl 42 gLaw rowG dgV mkG (fun key kl hk => by obtain ⟨s, _, e1⟩ := key_inv hk; exact ⟨s, e1⟩) (fun v y h => rowG_mk v y h) m w1.heap.size n D left cnt rfl HRG.out ?_ ?_) | fail)
    · intro hc0 hl0
      obtain ⟨av, nv, cv, ev⟩ : ∃ av nv cv, u5 = .slice av nv cv := by
        rcases HOW.out.2 with ⟨e, _⟩ | ⟨_, _, _, e, _⟩
        · exact ⟨_, _, _, e⟩
        · exact ⟨_, _, _, e⟩
      subst ev
      have HL0 := Lib.hid (show ∀ s, D32 s → (s ∈ cs ↔ b s = true) from fun s hs => by rw [HMEM.out s hs]; simp [hl0])
      have HSO := Lib.hid (sortd_c HOW.out HCD.out (by have h1 := HCL.out; have h2 := HC.out; omega))
      clear hc0 hl0
      go_wp2_with fail
      refine HSO.out.mono ?_
      rintro e3 w3 ⟨rfl, ho3, hg3⟩
      have HO3 := Lib.hid ho3
      have HG3 := Lib.hid hg3
      clear ho3 hg3 HSO
      go_wp2_with fail
      go_ret
      refine ⟨av, nv, cv, sortS cs, rfl, HO3.out, sortS_srt HND.out, fun s hs => HCD.out s ((sortS_perm cs).mem_iff.1 hs), fun s hs => by rw [(sortS_perm cs).mem_iff]; exact HL0.out s hs, HBE.out.grown HG3.out HBE.out.size (fun k hk => (HOW.out.block k hk).1)⟩
    · intro x c0 kl y ps w2 cnt1 hkey hlk hv hat hrg1 hlt hg1 hs1 hen
      have hen2 : (Instr.entry (.pointer (some ⟨w1.heap.size, 0, none⟩))).run Try.prog w2 = .ok (.tuple #[.agg (cellsOf x).toArray, mkG c0]) w2 := hen
      obtain ⟨hxd, hbx, hnx, hmem2⟩ := SrI.told (y := (y, ps)) (D := D) HVS.out hkey hlk hat HMEM.out
      have hne := row_ne_iter HOW.out HRG.out
      have hown2 : OwE w2 w.heap.size u5 cs := ownE_keep HOW.out fun k hk => hg1.block k (HOW.out.block k hk).2 fun e => hne (by rw [← e]; exact hk.symm)
      have hb2 : Below w.heap.size w w2 := HBE.out.trans ⟨hg1.os, hg1.tape, hg1.output, hg1.size, fun k hk => hg1.block k (Nat.lt_of_lt_of_le hk HBE.out.size) fun e => by have := Option.some.inj e; have := HSW.out; omega⟩
      have HOW2 := Lib.hid hown2
      have HRG2 := Lib.hid hrg1
      have HB2 := Lib.hid hb2
      have HM2 := Lib.hid hmem2
      have HNX := Lib.hid hnx
      have HSX := Lib.hid hxd
      have HC2 := Lib.hid (show cs.length + 1 + cnt1 ≤ Maps.size D by have := HCL.out; omega)
      have HLT := Lib.hid (show w2.rangeLeft m w1.heap.size < wr.rangeLeft m w1.heap.size by rw [hrg1.left_eq, HRG.out.left_eq]; exact hlt)
      have HS2 := Lib.hid (show w1.heap.size + 1 ≤ w2.heap.size by rw [hs1]; exact HSZ.out)
      have HEN := Lib.hid hen2
      clear hkey hlk hv hat hrg1 hlt hg1 hs1 hen hbx hnx hxd hmem2 hb2 hne hown2 HRG HOW HMEM
      simp only [dgV]
      obtain ⟨Y, hY⟩ : ∃ Y, Y = w2.heap.size := ⟨_, rfl⟩
      go_upto_region 5 with (first | (refine wpList_store_row (by rfl) 42 _ _ (by rfl) w2.heap.size (cellsOf x).toArray (by rfl) (by rfl) 42 (cellsOf zs32).toArray (by exact heap_new _ _) (infoG HSX.out) (zsizeG HSX.out) (cellsOf_all _) ?_) | fail)
      have K2 := Lib.hid (fun (Z : Obj) (hZ : Z = .cells (cellsOf zs32).toArray 42 (0, 0)) => show Brow ((w2.alloc Z).setRow w2.heap.size (cellsOf x).toArray) w2.heap.size 42 x ∧ Below w2.heap.size w2 ((w2.alloc Z).setRow w2.heap.size (cellsOf x).toArray) from by
        subst hZ
        exact ⟨(Brow.new w2 42 zs32).setRow, ((Below.refl _ _).alloc (Nat.le_refl _) _).setRow (Nat.le_refl _) _⟩)
      refine gen_code (F := fun W => Brow W w2.heap.size 42 x ∧ Below w2.heap.size w2 W) ⟨(K2.out _ rfl).1, (K2.out _ rfl).2⟩ ?_
      rintro wB ⟨hxB, hbB⟩
      rw [← hY] at hxB ⊢
      have HLX := Lib.hid (run_cell_dig wB Y x HSX.out hxB)
      have HOW3 := Lib.hid (show OwE wB w.heap.size u5 cs from HOW2.out.below hbB (Nat.le_refl _))
      have HRG3 := Lib.hid (HRG2.out.kept (row := none) (w' := wB) ⟨hbB.os, hbB.tape, hbB.output, hbB.size, fun k hk _ => hbB.block k hk⟩ (by simp) (by simp))
      have HB3 := Lib.hid (HB2.out.trans (hbB.mono HB2.out.size))
      have HS3 := Lib.hid (show w1.heap.size + 1 ≤ wB.heap.size from Nat.le_trans HS2.out hbB.size)
      have HL3 := Lib.hid (show wB.rangeLeft m w1.heap.size < wr.rangeLeft m w1.heap.size by rw [HRG3.out.left_eq, ← HRG2.out.left_eq]; exact HLT.out)
      have hlen4 : cs.length + 1 ≤ 4398046511104 := by have h1 := HC2.out; have h2 := HC.out; omega
      have hszB : w.heap.size ≤ wB.heap.size := HB3.out.size
      clear K2 hxB hbB HRG2 HOW2 HEN hY
      go_wp2_with (first | (refine wpList_loadg 42 _ (by rfl) (by rfl) (.pointer (some ⟨Y, 0, none⟩)) (by rfl) (.agg (cellsOf x).toArray) HLX.out ?_) | (refine wpList_dlay dtA rfl _ rfl wB.heap.size rfl _ rfl x HSX.out (by rfl) ?_) | (at_builtin; (refine wpList_pushE rfl _ _ rfl w.heap.size u5 cs x HSX.out rfl HOW3.out hszB rfl hlen4 ?_); intro v5 w5 hown5 hg5) | fail)
      have hrgA := HRG3.out.alloc (.cells (cellsOf x).toArray 42)
      have hneA := row_ne_iter HOW3.out HRG3.out
      have hnlA := row_ne_low HOW3.out (b := m) hml
      have hrg5 := hrgA.kept hg5 hnlA hneA
      refine ⟨Lib.hid ⟨⟨_, cnt1, cs ++ [x], hrg5, hown5, fun s hs => ?_, List.nodup_append.2 ⟨HND.out, by simp, fun a ha b hb e => ?_⟩, HM2.out, by have := HC2.out; rw [List.length_append, List.length_singleton]; exact this⟩, ?_, ?_⟩, by rw [hrg5.left_eq, ← HRG3.out.left_eq]; exact HL3.out⟩
      · rcases List.mem_append.1 hs with hs | hs
        · exact HCD.out s hs
        · rw [List.mem_singleton] at hs
          rw [hs]
          exact HSX.out
      · rw [List.mem_singleton] at hb
        subst hb
        subst e
        exact HNX.out ha
      · exact (HB3.out.alloc hszB _).grown hg5 (by simp; omega) fun k hk => (HOW3.out.block k hk).1
      · have := hg5.size
        rw [World.size_alloc] at this
        have := HS3.out
        omega
end Go.Proofs.Ytpppffgchgcghaa
