/-
  The walk over pieces of layer 2's laws: bytes cut at any places.
-/
import Derived.Test.YtealeefkeikcbabDoorDll
namespace Go.Proofs.YtealeefkeikcbabDoor
open Go.RowKit
set_option linter.unusedVariables false
/-- numbers that came in -/
def IntsIn (W : World) (a : Option Addr) (len cap : Nat) (zs : List Int) : Prop :=
  zs.length = len ∧ (∀ z ∈ zs, -9223372036854775808 ≤ z ∧ z ≤ 9223372036854775807) ∧ (a = none → cap = 0) ∧ len ≤ cap ∧ cap ≤ 9223372036854775807 ∧ (len = 0 ∨ ∃ b off, a = some ⟨b, off, none⟩ ∧ b < W.heap.size ∧ ∀ i, i < len → W.cell? ⟨b, off + i, none⟩ = some (.int .i64 (zs.getD i 0)))
/-- a piece: a slice that reads as these bytes -/
def Pc (w : World) (v : Value) (z : List Nat) : Prop := ∃ a n c, v = .slice a n c ∧ Rd w a n z ∧ n ≤ c ∧ c ≤ 140737488355327 ∧ (a = none → c = 0)
def Pcs (w : World) (vs : List Value) (zss : List (List Nat)) : Prop := vs.length = zss.length ∧ ∀ i, i < vs.length → Pc w (vs.getD i undef) (zss.getD i [])
theorem Pcs.push {w : World} {vs : List Value} {zss : List (List Nat)} (h : Pcs w vs zss) {v : Value} {z : List Nat} (hp : Pc w v z) : Pcs w (vs ++ [v]) (zss ++ [z]) := by
  refine ⟨by simp [h.1], fun i hi => ?_⟩
  rw [List.length_append, List.length_singleton] at hi
  simp only [List.getD_eq_getElem?_getD]
  by_cases hl : i < vs.length
  · rw [List.getElem?_append_left hl, List.getElem?_append_left (by rw [← h.1]; exact hl)]
    have := h.2 i hl
    simpa only [List.getD_eq_getElem?_getD] using this
  · obtain rfl : i = vs.length := by omega
    rw [List.getElem?_append_right (by omega), List.getElem?_append_right (by rw [h.1]; exact Nat.le_refl _), Nat.sub_self, h.1, Nat.sub_self]
    exact hp
theorem info_sl : (Tryd.prog.info? 63).map (fun i => (i.zero, i.size, i.bytes)) = some (some (.slice none 0 0), 1, 24) := by kernel_rfl
abbrev OwnS (w : World) (B : Nat) (v : Value) (vs : List Value) : Prop := w.ownsRow B 63 1 v vs.length vs
theorem OwnS.alloc {w : World} {B : Nat} {v : Value} {vs : List Value} (h : OwnS w B v vs) (o : Obj) : OwnS (w.alloc o) B v vs := World.ownsRow.alloc h o
theorem OwnS.block {w : World} {B : Nat} {v : Value} {vs : List Value} (h : OwnS w B v vs) : ∀ k, v.ownBlock = some k → B ≤ k ∧ k < w.heap.size := World.ownsRow.lt h
theorem wpList_pushS {w : World} {ops : Array Oper} {rest : List Oper} {o : Oper} {a : Act} {Q : Exit → Act → World → Prop} (hgd : o.guard = none) (s x : Operand)
    (ho : o.op = .call { callee := .builtin .append, args := #[s, x], argTypes := #[77, 77] })
    (B : Nat) (v : Value) (vs : List Value) (y : Value) (hy : y.oneCell' = true) (hs : a.eval s = v) (hown : OwnS w B v vs) (hB : B ≤ w.heap.size) (hx : a.eval x = .slice (some ⟨w.heap.size, 0, none⟩) 1 1)
    (hlen : vs.length + 1 ≤ 1000)
    (h : ∀ v' w', OwnS w' B v' (vs ++ [y]) → Below B w w' → wpList Tryd.prog ops Q rest (a.put o.dst v') w') :
    wpList Tryd.prog ops Q (o :: rest) a (w.alloc (.cells #[y] 63)) := by
  obtain ⟨i0, hi, hz0, hz1, hz2⟩ := info_parts info_sl
  refine wpList_append_own _ hgd s x 77 ho B 63 i0 (.slice none 0 0) 1 24 Tryd.underlying77 hi hz0 hz1 hz2 rfl (by decide) v vs.length vs hs (hown.alloc _) ⟨w.heap.size, 0, none⟩ 1 1 [y] hx rfl ?_ ?_ (by unfold maxLen; omega) (by omega) (by simp; omega) ?_
  · intro j u hj
    rw [Addr.add_mid, Nat.zero_add, cell_of_row _ _ _ _ _ _ (heap_new _ _)]
    simpa using hj
  · intro u hu
    simp only [List.mem_singleton] at hu
    subst hu; exact hy
  · intro v' w' h1 h2 _
    refine h v' w' ?_ ?_
    · have e : (vs ++ [y]).length = vs.length + 1 := by simp
      unfold OwnS
      rw [e]
      exact h1
    · exact ((Below.refl B w).alloc hB _).grown h2 (by simp only [World.alloc, Array.size_push]; omega) fun k hk => (hown.block k hk).1
theorem IntsIn.below {W W' : World} {a : Option Addr} {len cap : Nat} {zs : List Int} (h : IntsIn W a len cap zs) (hb : Below W.heap.size W W') : IntsIn W' a len cap zs := by
  obtain ⟨h1, h2, h3, h4, h5, h6⟩ := h
  refine ⟨h1, h2, h3, h4, h5, ?_⟩
  rcases h6 with h6 | ⟨b, off, ha, hlt, hc⟩
  · exact .inl h6
  · exact .inr ⟨b, off, ha, Nat.lt_of_lt_of_le hlt hb.size, fun i hi => (hb.cell (p := ⟨b, off + i, none⟩) hlt).trans (hc i hi)⟩
theorem size_int (W : World) : (Go.sizeOf 3).run Tryd.prog W = .ok 1 W := by kernel_rfl
theorem und_ints : Tryd.prog.underlying 73 = some (.slice (Tryd.prog.elem 73)) := by
  rw [show Tryd.prog.elem 73 = 3 by kernel_rfl]; exact Tryd.underlying73
theorem run_iheadAt (W : World) (a : Option Addr) (len cap k : Nat) (hk : k ≤ cap) :
    (Instr.sliceAt 73 (.slice a len cap) none (some (.int .i64 (k : Int))) none).run Tryd.prog W = .ok (.slice a k cap) W := by
  rw [run_sliceAt_slice W _ _ _ _ _ und_ints, run_slice_h W _ a len cap und_ints .i64 (k : Int) (by omega) (by omega), show Tryd.prog.elem 73 = 3 by kernel_rfl, size_int]
  simp [Result.andThen, sliced, add_zero']
def PcRet (wo w : World) (zs : List Nat) (e : Ending) (w' : World) : Prop := ∃ v vs zss, e = .returned v ∧ OwnS w' w.heap.size v vs ∧ Pcs wo vs zss ∧ 0 < vs.length ∧ vs.length ≤ 41 ∧ zss.flatten = zs ∧ Below w.heap.size w w'
/-- the pieces so far, and what is left -/
def PcW (wo w : World) (zs : List Nat) (k : Nat) (a : Option Addr) (n c : Nat) (v : Value) (W : World) : Prop := ∃ vs zss q, Rd wo a n q ∧ n ≤ c ∧ c ≤ 140737488351232 ∧ (a = none → c = 0) ∧ OwnS W w.heap.size v vs ∧ Pcs wo vs zss ∧ vs.length = k ∧ zss.flatten ++ q = zs ∧ Below w.heap.size w W
theorem PcW.step {wo w W w1 : World} {zs : List Nat} {k n c q : Nat} {a : Option Addr} {v1 : Value} {vs : List Value} {zss : List (List Nat)} {q0 : List Nat} (hrd : Rd wo a n q0) (hnc : n ≤ c) (hcm : c ≤ 140737488351232) (hnil : a = none → c = 0) (hpcs : Pcs wo vs zss) (hlen : vs.length = k) (hfl : zss.flatten ++ q0 = zs)
    (hB : Below w.heap.size w W) (hq : q ≤ n) (hown1 : OwnS w1 w.heap.size v1 (vs ++ [.slice a q c])) (hb1 : Below w.heap.size W w1) : PcW wo w zs (k + 1) (sla a c q) (n - q) (c - q) v1 w1 := by
  refine ⟨vs ++ [.slice a q c], zss ++ [q0.take q], q0.drop q, hrd.cut c q hq hnc, by omega, by omega, fun e => ?_, hown1, hpcs.push ⟨a, q, c, rfl, hrd.take q hq, by omega, by omega, hnil⟩, by rw [List.length_append, hlen, List.length_singleton], ?_, hB.trans hb1⟩
  · have h0 := hnil (sla_none _ _ _ e)
    omega
  · rw [List.flatten_append, List.flatten_cons, List.flatten_nil, List.append_nil, List.append_assoc, List.take_append_drop, hfl]
theorem PcW.last {wo w W w1 : World} {zs : List Nat} {n c : Nat} {a : Option Addr} {v1 : Value} {vs : List Value} {zss : List (List Nat)} {q0 : List Nat} (hrd : Rd wo a n q0) (hnc : n ≤ c) (hcm : c ≤ 140737488351232) (hnil : a = none → c = 0) (hpcs : Pcs wo vs zss) (hlen : vs.length ≤ 40) (hfl : zss.flatten ++ q0 = zs)
    (hB : Below w.heap.size w W) (hown1 : OwnS w1 w.heap.size v1 (vs ++ [.slice a n c])) (hb1 : Below w.heap.size W w1) : PcRet wo w zs (.returned v1) w1 := by
  refine ⟨v1, vs ++ [.slice a n c], zss ++ [q0], rfl, hown1, hpcs.push ⟨a, n, c, rfl, hrd, hnc, by omega, hnil⟩, by rw [List.length_append, List.length_singleton]; omega, by rw [List.length_append, List.length_singleton]; omega, ?_, hB.trans hb1⟩
  rw [List.flatten_append, List.flatten_cons, List.flatten_nil, List.append_nil, hfl]
theorem wraps (z : Int) (n : Nat) (hn : n ≤ 140737488351232) : wrap64 ((n : Int) + 1) = (n : Int) + 1 ∧ IntKind.u64.wrap ((n : Int) + 1) = (n : Int) + 1 ∧ ¬ ((n : Int) + 1 = 0) ∧ ∃ q : Nat, q ≤ n ∧ wrap64 ((IntKind.u64.wrap z).tmod ((n : Int) + 1)) = (q : Int) := by
  refine ⟨by unfold wrap64; omega, ?_, by omega, ?_⟩
  · simp [IntKind.wrap, IntKind.bits, IntKind.signed]; omega
  · have h0 : 0 ≤ IntKind.u64.wrap z := by simp [IntKind.wrap, IntKind.bits, IntKind.signed]; omega
    obtain ⟨t, ht⟩ := Int.eq_ofNat_of_zero_le h0
    have hl : t % (n + 1) < n + 1 := Nat.mod_lt _ (by omega)
    refine ⟨t % (n + 1), by omega, ?_⟩
    rw [ht, show ((n : Int) + 1) = ((n + 1 : Nat) : Int) by omega, ← Int.ofNat_tmod]
    unfold wrap64; omega
theorem run_iindex (W : World) (b o len cap i : Nat) (hi : i < len) :
    (Instr.indexAt 73 (.slice (some ⟨b, o, none⟩) len cap) (.int .i64 (i : Int))).run Tryd.prog W = .ok (.pointer (some ⟨b, o + i, none⟩)) W := by
  rw [run_indexAt_slice W 73 ⟨b, o, none⟩ len cap .i64 (i : Int) und_ints, show Tryd.prog.elem 73 = 3 by kernel_rfl, size_int]
  have h1 : (0 : Int) ≤ (i : Int) ∧ (i : Int) < (len : Int) := by omega
  simp [Result.andThen, h1, Addr.add]
set_option maxRecDepth 100000 in
set_option maxHeartbeats 4000000 in
theorem pieces_c (a : Option Addr) (len cap : Nat) (zs : List Nat) (a1 : Option Addr) (len1 cap1 : Nat) (cs : List Int) (wo w : World) (r1 : BytesIn wo a len cap zs) (r2 : IntsIn wo a1 len1 cap1 cs) (hb0 : Below wo.heap.size wo w) :
    Calls Tryd.prog 42 #[.slice a len cap, .slice a1 len1 cap1] w (PcRet wo w zs) := by
  obtain ⟨m, hm⟩ : ∃ m : Nat, m = min len1 40 := ⟨_, rfl⟩
  have hm1 : m ≤ len1 := by omega
  have hm40 : m ≤ 40 := by omega
  obtain ⟨hcl, hcb, hcn, hcc, hccm, hcell⟩ := r2.below hb0
  have HCB := Lib.hid (And.intro hcl (And.intro hcb hcell))
  have kC := fun W => run_iheadAt W a1 len1 cap1 m (by omega)
  obtain ⟨hr, hnil, hlc, hcm⟩ := r1
  have HP0 := Lib.hid (show PcW wo w zs 0 a len cap (.slice none 0 0) w from ⟨[], [], zs, hr, hlc, hcm, hnil, World.ownsRow_nil w _ _ _, ⟨rfl, fun i hi => absurd hi (by simp)⟩, rfl, rfl, Below.refl _ _⟩)
  clear hr hnil hlc hcm hcl hcb hcell hcn hb0 r2
  have HMM := Lib.hid hm
  clear hm
  by_cases h40 : len1 ≤ 40
  · have h40' : (len1 : Int) ≤ 40 := by omega
    have hmm : m = len1 := by have := HMM.out; omega
    subst hmm
    go_enter Tryd.func42, Tryd.ntmps42
    go_wp2_with fail
    go_loopw [0, 5, 14] (fun pv v i wr => ∃ k : Nat, k ≤ m ∧ i = .int .i64 k ∧ ∃ a n c, pv = .slice a n c ∧ Hid (PcW wo w zs k a n c v wr)) (fun _ _ i _ => m - (intOf i).toNat)
    case atStart => exact ⟨0, Nat.zero_le _, rfl, a, len, cap, rfl, HP0.out⟩
    case round =>
      obtain ⟨k, hk, rfl, a', n', c', rfl, HO⟩ := hrel
      obtain ⟨vs, zss, q0, hrd, hnc, hcm, hnil, hown, hpcs, hlen, hfl, hB⟩ := HO.out
      have HP := Lib.hid (And.intro hrd (And.intro hnil (And.intro hpcs (And.intro hlen (And.intro hfl hB)))))
      have HOW := Lib.hid hown
      have hsz := hB.size
      have hvl : vs.length + 1 ≤ 1000 := by omega
      clear hrd hnil hown hpcs hlen hfl hB HO
      by_cases hkn : k < m
      · obtain ⟨b, o, rfl, hb, hc⟩ : ∃ b off, a1 = some ⟨b, off, none⟩ ∧ b < w.heap.size ∧ ∀ i, i < m → w.cell? ⟨b, off + i, none⟩ = some (.int .i64 (cs.getD i 0)) := by
          rcases HCB.out.2.2 with h | h
          · omega
          · exact h
        obtain ⟨z, hz⟩ : ∃ z, z = cs.getD k 0 := ⟨_, rfl⟩
        have hcell : wr.cell? ⟨b, o + k, none⟩ = some (.int .i64 z) := by
          rw [hz, ← hc k (by omega)]
          exact HP.out.2.2.2.2.2.cell (p := ⟨b, o + k, none⟩) hb
        have kI := fun W => run_iindex W b o m cap1 k hkn
        obtain ⟨w1e, w2e, w3e, q, hq, w4e⟩ := wraps z n' (by omega)
        have kH := fun W => run_headAt W a' n' c' q (Nat.le_trans hq hnc)
        have kT := fun W => run_cutAt W a' n' c' q hq
        clear hc hz
        go_wp2_with (at_builtin; (refine wpList_pushS rfl _ _ rfl w.heap.size u5 vs (.slice a' q c') rfl rfl HOW.out hsz rfl hvl ?_); intro v1 w1 hown1 hb1)
        have HO1 := Lib.hid (PcW.step HP.out.1 hnc hcm HP.out.2.1 HP.out.2.2.1 HP.out.2.2.2.1 HP.out.2.2.2.2.1 HP.out.2.2.2.2.2 hq hown1 hb1)
        clear hown1 hb1 HOW HP
        go_roundw
        case rel => exact ⟨k + 1, by omega, by go_num, _, _, _, rfl, HO1.out⟩
        case measure => simp [intOf]; omega
      · go_wp2_with (at_builtin; (refine wpList_pushS rfl _ _ rfl w.heap.size u5 vs (.slice a' n' c') rfl rfl HOW.out hsz rfl hvl ?_); intro v1 w1 hown1 hb1)
        have HE := Lib.hid (PcW.last HP.out.1 hnc hcm HP.out.2.1 HP.out.2.2.1 (by have := HP.out.2.2.2.1; omega) HP.out.2.2.2.2.1 HP.out.2.2.2.2.2 hown1 hb1)
        clear hown1 hb1 HOW HP
        go_wp2
        go_ret
        exact HE.out
  · have h40' : ¬ (len1 : Int) ≤ 40 := by omega
    have hmm : m = 40 := by have := HMM.out; omega
    subst hmm
    go_enter Tryd.func42, Tryd.ntmps42
    go_wp2_with fail
    go_loopw [0, 5, 14] (fun pv v i wr => ∃ k : Nat, k ≤ 40 ∧ i = .int .i64 k ∧ ∃ a n c, pv = .slice a n c ∧ Hid (PcW wo w zs k a n c v wr)) (fun _ _ i _ => 40 - (intOf i).toNat)
    case atStart => exact ⟨0, Nat.zero_le _, rfl, a, len, cap, rfl, HP0.out⟩
    case round =>
      obtain ⟨k, hk, rfl, a', n', c', rfl, HO⟩ := hrel
      obtain ⟨vs, zss, q0, hrd, hnc, hcm, hnil, hown, hpcs, hlen, hfl, hB⟩ := HO.out
      have HP := Lib.hid (And.intro hrd (And.intro hnil (And.intro hpcs (And.intro hlen (And.intro hfl hB)))))
      have HOW := Lib.hid hown
      have hsz := hB.size
      have hvl : vs.length + 1 ≤ 1000 := by omega
      clear hrd hnil hown hpcs hlen hfl hB HO
      by_cases hkn : k < 40
      · obtain ⟨b, o, rfl, hb, hc⟩ : ∃ b off, a1 = some ⟨b, off, none⟩ ∧ b < w.heap.size ∧ ∀ i, i < len1 → w.cell? ⟨b, off + i, none⟩ = some (.int .i64 (cs.getD i 0)) := by
          rcases HCB.out.2.2 with h | h
          · omega
          · exact h
        obtain ⟨z, hz⟩ : ∃ z, z = cs.getD k 0 := ⟨_, rfl⟩
        have hcell : wr.cell? ⟨b, o + k, none⟩ = some (.int .i64 z) := by
          rw [hz, ← hc k (by omega)]
          exact HP.out.2.2.2.2.2.cell (p := ⟨b, o + k, none⟩) hb
        have kI := fun W => run_iindex W b o 40 cap1 k hkn
        obtain ⟨w1e, w2e, w3e, q, hq, w4e⟩ := wraps z n' (by omega)
        have kH := fun W => run_headAt W a' n' c' q (Nat.le_trans hq hnc)
        have kT := fun W => run_cutAt W a' n' c' q hq
        clear hc hz
        go_wp2_with (at_builtin; (refine wpList_pushS rfl _ _ rfl w.heap.size u5 vs (.slice a' q c') rfl rfl HOW.out hsz rfl hvl ?_); intro v1 w1 hown1 hb1)
        have HO1 := Lib.hid (PcW.step HP.out.1 hnc hcm HP.out.2.1 HP.out.2.2.1 HP.out.2.2.2.1 HP.out.2.2.2.2.1 HP.out.2.2.2.2.2 hq hown1 hb1)
        clear hown1 hb1 HOW HP
        go_roundw
        case rel => exact ⟨k + 1, by omega, by go_num, _, _, _, rfl, HO1.out⟩
        case measure => simp [intOf]; omega
      · go_wp2_with (at_builtin; (refine wpList_pushS rfl _ _ rfl w.heap.size u5 vs (.slice a' n' c') rfl rfl HOW.out hsz rfl hvl ?_); intro v1 w1 hown1 hb1)
        have HE := Lib.hid (PcW.last HP.out.1 hnc hcm HP.out.2.1 HP.out.2.2.1 (by have := HP.out.2.2.2.1; omega) HP.out.2.2.2.2.1 HP.out.2.2.2.2.2 hown1 hb1)
        clear hown1 hb1 HOW HP
        go_wp2
        go_ret
        exact HE.out
end Go.Proofs.YtealeefkeikcbabDoor
