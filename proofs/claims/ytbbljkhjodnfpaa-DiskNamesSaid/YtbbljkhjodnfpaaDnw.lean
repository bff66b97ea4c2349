/-
  The walk over the statement of a disk's names.
-/
import Derived.Test.YtbbljkhjodnfpaaRfg
import Derived.Test.YtbbljkhjodnfpaaDcd
import Derived.BigQuiet
namespace Go.Proofs.Ytbbljkhjodnfpaa
open Go.RowKit Go.Maps Go.Sort
set_option linter.unusedVariables false
/-- strings that came in -/
def StrsIn (W : World) (a : Option Addr) (len cap : Nat) (L : List ByteArray) : Prop :=
  L.length = len ∧ (a = none → cap = 0) ∧ len ≤ cap ∧ cap ≤ 9223372036854775807 ∧ (len = 0 ∨ ∃ b off, a = some ⟨b, off, none⟩ ∧ b < W.heap.size ∧ ∀ i s, L[i]? = some s → W.cell? ⟨b, off + i, none⟩ = some (.string s)) ∧ ∀ s ∈ L, s.size ≤ maxLen
theorem strsIn_nil (W : World) : StrsIn W none 0 0 [] := ⟨rfl, fun _ => rfl, Nat.le_refl _, by omega, .inl rfl, fun s hs => by cases hs⟩
theorem strsIn_some {W : World} {x : Addr} {len cap : Nat} {ss : List ByteArray} (hl : len ≤ cap) (hz : ss.length = cap) (hm : cap ≤ maxLen) (hcell : ∀ i, i < ss.length → W.cell? (x.add i) = some (.string (ss.getD i ByteArray.empty))) (hw : ∀ s ∈ ss, s.size ≤ maxLen) : StrsIn W (some x) len cap (ss.take len) := by
  unfold maxLen at hm
  refine ⟨by rw [List.length_take]; omega, fun e => (by cases e), hl, by omega, ?_, fun s hs => hw s (List.mem_of_mem_take hs)⟩
  by_cases h0 : len = 0
  · exact .inl h0
  · obtain ⟨b, off, spot⟩ := x
    have hc0 := hcell 0 (by omega)
    have hspot : spot = none := by simpa [Addr.add] using World.cell?_spot hc0
    subst hspot
    rw [show (⟨b, off, none⟩ : Addr).add 0 = ⟨b, off, none⟩ by simp [Addr.add]] at hc0
    refine .inr ⟨b, off, rfl, World.block_lt_of_cell? W ⟨b, off, none⟩ hc0, fun i s hs => ?_⟩
    have hi := (List.getElem?_eq_some_iff.1 hs).1
    rw [List.length_take] at hi
    rw [List.getElem?_take, if_pos (by omega)] at hs
    have hc := hcell i (by omega)
    rw [List.getD_eq_getElem?_getD, hs] at hc
    rw [show (⟨b, off + i, none⟩ : Addr) = (⟨b, off, none⟩ : Addr).add i by simp [Addr.add]]
    exact hc
theorem run_str_idx (W : World) (b o len cap i : Nat) (hi : i < len) : (Instr.indexAt 36 (.slice (some ⟨b, o, none⟩) len cap) (.int .i64 (i : Int))).run Try.prog W = .ok (.pointer (some ⟨b, o + i, none⟩)) W := by
  rw [run_indexAt_slice W 36 ⟨b, o, none⟩ len cap .i64 (i : Int) (by kernel_rfl)]
  have h1 : (0 : Int) ≤ (i : Int) ∧ (i : Int) < (len : Int) := by omega
  rw [if_pos h1, show (Go.sizeOf (Try.prog.elem 36)).run Try.prog W = .ok 1 W from by kernel_rfl]
  simp [Result.andThen, Addr.add]
theorem exec_str_idx {b o len cap i : Nat} (hi : i < len) {A : Act} {x y : Operand} (hx : A.eval x = .slice (some ⟨b, o, none⟩) len cap) (hy : A.eval y = .int .i64 (i : Int)) (op : Oper) (ho : op.op = .indexAddr 36 x y) (W : World) :
    (execOp A.eval op).run Try.prog W = .ok (.value (.pointer (some ⟨b, o + i, none⟩))) W := by
  unfold execOp
  simp only [ho, hx, hy]
  rw [Sem.run_bind, run_str_idx W b o len cap i hi]
  rfl
theorem exec_str_idx0 {b len cap i : Nat} (hi : i < len) {A : Act} {x y : Operand} (hx : A.eval x = .slice (some ⟨b, 0, none⟩) len cap) (hy : A.eval y = .int .i64 (i : Int)) (op : Oper) (ho : op.op = .indexAddr 36 x y) (W : World) :
    (execOp A.eval op).run Try.prog W = .ok (.value (.pointer (some ⟨b, i, none⟩))) W := by
  have h := exec_str_idx hi hx hy op ho W
  rwa [Nat.zero_add] at h
/-- both disks behind k names -/
structure LN (w : World) (d m k : Nat) (wr : World) : Prop where
  ex : ∃ S lv A, DK w.heap.size d S wr ∧ RA (3 * k) S A ∧ RDK (S.own d) w.heap.size m lv A wr ∧ A.now.length ≤ k ∧ A.down = false ∧ A.fuse = -1
  bel : Below w.heap.size w wr
abbrev crt (s : ByteArray) : DCh := ⟨0, s, ⟨#[]⟩, []⟩
theorem step_nm {A : Ad} {k : Nat} (s : ByteArray) (hd : A.down = false) (hf : A.fuse = -1) (hl : A.now.length ≤ k) : (A.step (crt s)).1.down = false ∧ (A.step (crt s)).1.fuse = -1 ∧ (A.step (crt s)).1.now.length ≤ k + 1 := by
  by_cases h : A.may (crt s) = 0
  · rw [Ad.step_did hd h (by omega)]
    refine ⟨hd, ?_, ?_⟩
    · show (if 0 < A.fuse then A.fuse - 1 else A.fuse) = -1
      rw [if_neg (by omega), hf]
    · show (doF A.now (crt s)).length ≤ _
      rw [show doF A.now (crt s) = withF A.now (s, []) from rfl, length_with]
      omega
  · rw [Ad.step_no hd rfl h]
    exact ⟨hd, hf, by show A.now.length ≤ _; omega⟩
theorem Mov.sta {S S' : Dsk} {d : Nat} {w w' : World} (h : Mov S d S' w w') : Sta (S.own d) w w' := ⟨h.size, h.block⟩
/-- Create by the program, as LN has it -/
theorem LN.create {w wr : World} {d m k : Nat} (h : LN w d m k wr) (s : ByteArray) (hs : s.size ≤ maxLen) (hk : k ≤ 100) : ∃ x : Int, Calls Try.prog 15 #[.pointer (some ⟨d, 0, none⟩), .string s] wr fun e w2 => e = .returned (.int .i64 x) ∧ Below w.heap.size w w2 ∧
    Calls Try.prog 16 #[.pointer (some ⟨m, 0, none⟩), .agg #[.int .i64 0, .string s, .string ⟨#[]⟩, .slice none 0 0]] w2 fun e w3 => e = .returned (.int .i64 x) ∧ LN w d m (k + 1) w3 := by
  obtain ⟨S, lv, A, hk1, hr1, hd1, hl, hdn, hfu⟩ := h.ex
  refine ⟨(A.step (crt s)).2, (acreate hk1 hr1 s hs (by omega)).mono ?_⟩
  rintro e w2 ⟨rfl, S2, hk2, hr2, hm2⟩
  have hd2 : RDK (S2.own d) w.heap.size m lv A w2 := hd1.sta hm2.sta hm2.own
  have hb2 := h.bel.trans (hm2.below hk1)
  have hlo : A.loose.length ≤ 1000 := by have := hr1.loose; have := hr1.big; omega
  refine ⟨rfl, hb2, ?_⟩
  have hst := rstep_c hd2 (fun k hk => (hk2.ownLt hk).2) (crt s) none 0 0 ⟨⟨rfl, by simp, .inl rfl⟩, fun _ _ _ e => (by cases e), fun _ => rfl, Nat.le_refl _⟩ (by omega) (by omega) (by omega)
    (fun _ G W hW => rmay0_c hW (crt s) rfl none 0 0 hs (by omega))
    (fun _ N W na nn nc ta tn tc hN hrf hrb => by
      have hln := hrf.ln
      exact rdo0_c hrf hN s ⟨#[]⟩ (.slice ta tn tc) ⟨_, _, _, rfl⟩ (by omega))
  refine hst.mono ?_
  rintro e w3 ⟨rfl, lv', hd3, hm3⟩
  obtain ⟨n1, n2, n3⟩ := step_nm s hdn hfu hl
  exact ⟨rfl, ⟨S2, lv', _, hk2.sta (fun k hk hS => hd2.noF k hk hS) hm3, hr2.mono (by omega), hd3, n3, n1, n2⟩, hb2.trans (hm3.below hd2)⟩
/-- a list of names that begin so, of the first k files -/
theorem names_snoc (l : Fls) (k : Nat) (f : ByteArray × List Nat) (head : ByteArray) (h : l[k]? = some f) : namesF (l.take (k + 1)) head = namesF (l.take k) head ++ (if hasP head f.1 then [f.1] else []) := by
  unfold namesF
  rw [List.take_add_one, h]
  simp only [Option.toList_some, List.map_append, List.filter_append, List.map_cons, List.map_nil]
  congr 1
  cases e : hasP head f.1 <;> simp [e]
/-- cells of strings -/
def RdS (w : World) (a : Option Addr) (n : Nat) (cs : List ByteArray) : Prop := cs.length = n ∧ (n = 0 ∨ ∃ g, a = some ⟨g, 0, none⟩ ∧ g < w.heap.size ∧ ∀ i s, cs[i]? = some s → w.cell? ⟨g, i, none⟩ = some (.string s))
theorem RdS.of {w : World} {B n c : Nat} {a : Option Addr} {cs : List ByteArray} (h : OwnS w B (.slice a n c) cs) (hn : n = cs.length) : RdS w a n cs := by
  refine ⟨hn.symm, ?_⟩
  rcases h.2 with ⟨h1, h2⟩ | ⟨g, c', cur, h1, h2, h3, h4, h5, h6, h7⟩
  · exact .inl (by rw [hn]; exact h2)
  · obtain ⟨e1, e2, e3⟩ := Value.slice.inj h1
    subst e1
    refine .inr ⟨g, rfl, (Array.getElem?_eq_some_iff.1 h3).1, fun i s hs => ?_⟩
    have hi := (List.getElem?_eq_some_iff.1 hs).1
    rw [cell_of_row w g i cur _ _ h3, ← Array.getElem?_toList]
    have h8 := congrArg (fun l => l[i]?) h7
    simp only [List.getElem?_map, hs, Option.map_some, List.getElem?_take] at h8
    rw [if_pos (by omega)] at h8
    exact h8
theorem RdS.below {w w' : World} {n : Nat} {a : Option Addr} {cs : List ByteArray} (h : RdS w a n cs) (hb : Below w.heap.size w w') : RdS w' a n cs := by
  refine ⟨h.1, ?_⟩
  rcases h.2 with h0 | ⟨g, h1, h2, h3⟩
  · exact .inl h0
  · exact .inr ⟨g, h1, Nat.lt_of_lt_of_le h2 hb.size, fun i s hs => (hb.cell (p := ⟨g, i, none⟩) h2).trans (h3 i s hs)⟩
set_option maxRecDepth 100000 in
set_option maxHeartbeats 8000000 in
theorem dnames_law (a0 : Option Addr) (len0 cap0 : Nat) (z0 : List ByteArray) (a1 : ByteArray) (w : World) (r0 : StrsIn w a0 len0 cap0 z0) (r1 : a1.size ≤ 140737488351232) :
    Calls Try.prog 4 #[.slice a0 len0 cap0, .string a1] w fun e w' => e = .returned (.bool true) ∧ Below w.heap.size w w' := by
  obtain ⟨hzl, hnil, hlc, hcm, hcell, hsz⟩ := r0
  have HCELL := Lib.hid hcell
  have HSZ := Lib.hid hsz
  have HZL := Lib.hid hzl
  obtain ⟨L, hL⟩ : ∃ L : Nat, L = min len0 60 := ⟨_, rfl⟩
  have hmin : min (len0 : Int) 60 = (L : Int) := by omega
  have hL60 : L ≤ 60 := by omega
  have hLl : L ≤ len0 := by omega
  clear hcell hsz hzl hL
  have HD := Lib.hid (dnew_c 0 w (by omega) (by omega))
  go_enter Try.func4, Try.ntmps4
  go_wp2_with fail
  refine HD.out.mono ?_
  rintro e1 w1 ⟨rfl, hk1, hb1⟩
  obtain ⟨d, hd⟩ : ∃ d, d = w.heap.size := ⟨_, rfl⟩
  rw [← hd] at hk1 ⊢
  have hRN := rnew_c ((newS 0).own d) 0 w1 (fun k hk => (hk1.ownLt hk).2)
  have HK1 := Lib.hid hk1
  have HB1 := Lib.hid hb1
  have HRN := Lib.hid hRN
  have HDW := Lib.hid hd
  clear hk1 hb1 hRN HD hd
  go_wp2_with fail
  refine HRN.out.mono ?_
  rintro e2 w2 ⟨rfl, hd2, hb2⟩
  obtain ⟨m, hm⟩ : ∃ m, m = w1.heap.size := ⟨_, rfl⟩
  rw [← hm] at hd2 ⊢
  have HMW := Lib.hid hm
  have HB2 := Lib.hid hb2
  have HD2 := Lib.hid hd2
  clear hm hb2 hd2 HRN
  go_wp2_with fail
  refine (awake9_c w2).mono ?_
  rintro e3 w3 ⟨rfl, hb3⟩
  have HL0 := Lib.hid (show LN w d m 0 w3 from ⟨⟨newS 0, .slice none 0 0, ⟨0, -1, false, [], [], []⟩, by
      have h1 := HK1.out
      rw [HDW.out] at h1 ⊢
      exact (h1.below HB2.out).below hb3, anewS 0 (by omega) (by omega), by
      have h2 := HD2.out.below hb3
      exact ⟨by have := HB1.out.size; rw [HMW.out]; exact this, h2.noF, h2.hd, by
        obtain ⟨ps, p1, p2, p3⟩ := h2.hl
        have : ps = [] := by cases ps with | nil => rfl | cons x l => cases p1
        subst this
        exact ⟨[], rfl, World.ownsRow_nil _ _ _ _, p3⟩⟩, Nat.le_refl _, rfl, rfl⟩, (HB1.out.trans (HB2.out.mono HB1.out.size)).trans (hb3.mono (Nat.le_trans HB1.out.size HB2.out.size))⟩)
  clear hb3 HK1 HD2 HB1 HB2 HDW HMW
  go_wp2_with fail
  go_loopw [33] (fun i wr => ∃ k : Nat, k ≤ L ∧ i = .int .i64 k ∧ Hid (LN w d m k wr)) (fun i _ => L - (intOf i).toNat)
  case atStart => exact ⟨0, Nat.zero_le _, rfl, HL0⟩
  case round =>
    clear HL0
    obtain ⟨k, hk, rfl, HLN⟩ := hrel
    by_cases hkl : k < L
    · obtain ⟨b, off, rfl, hb, hc⟩ := HCELL.out.resolve_left (by omega)
      obtain ⟨s, hs⟩ : ∃ s, z0[k]? = some s := ⟨_, List.getElem?_eq_getElem (by rw [HZL.out]; omega)⟩
      have c0 := (HLN.out.bel.cell (p := ⟨b, off + k, none⟩) hb).trans (hc k s hs)
      have hsm := HSZ.out s (List.mem_of_getElem? hs)
      have hix := fun W => run_str_idx W b off L cap0 k hkl
      obtain ⟨x, hcr⟩ := HLN.out.create s hsm (by omega)
      obtain ⟨q, hq⟩ : ∃ q, isNm s = q := ⟨_, rfl⟩
      have HI1 := Lib.hid (fun W => isname_c s W hsm)
      have HI2 := Lib.hid (fun W => risname_c s W hsm)
      rw [show (decide (1 ≤ s.size) && decide (s.size ≤ 160)) = q from hq] at HI1
      rw [hq] at HI2
      have HCR := Lib.hid hcr
      clear hc hs hcr hq HLN
      have hqq : (q != q) = false := by simp
      have hxx : (x != x) = false := by simp
      go_wp2_with fail
      refine (HI1.out _).mono ?_
      rintro e4 w4 ⟨rfl, rfl⟩
      go_wp2_with fail
      refine (HI2.out _).mono ?_
      rintro e5 w5 ⟨rfl, rfl⟩
      go_wp2_with fail
      refine HCR.out.mono ?_
      rintro e6 w6 ⟨rfl, hb6, hst⟩
      have HST := Lib.hid hst
      clear hb6 hst HCR HI1 HI2 c0 hix
      go_wp2_with fail
      refine HST.out.mono ?_
      rintro e7 w7 ⟨rfl, hln⟩
      have HLN := Lib.hid hln
      clear hln HST
      go_wp2_with fail
      go_roundw
      case rel => exact ⟨k + 1, by omega, by go_num, HLN⟩
      case measure => simp [intOf]; omega
    · obtain ⟨S, lv, A, hk1, hr1, hd1, hl, hdn, hfu⟩ := HLN.out.ex
      have HNM := Lib.hid (anames hk1 hr1 a1 (by omega))
      unfold NmA at HNM
      rw [hdn] at HNM
      simp only [Bool.false_eq_true, if_false] at HNM
      have HBW := Lib.hid HLN.out.bel
      have HD1 := Lib.hid hd1
      have HAL := Lib.hid hl
      have HNS := Lib.hid (show ∀ n : ByteArray, n ∈ A.now.map (·.1) → n.size ≤ maxLen from fun n hn => by
        obtain ⟨f, hf, rfl⟩ := List.mem_map.1 hn
        have h1 : (S.at f.1).isSome = true := by
          cases e : S.at f.1 with
          | some b => rfl
          | none =>
            have := hr1.none e
            exact absurd rfl (lookF_none this f hf)
        exact Nat.le_trans (at_small hk1 hr1 f.1 h1) (by unfold maxLen; omega))
      clear hk1 hr1 hd1 hl hdn hfu HLN HCELL HSZ HZL
      go_wp2_with fail
      refine HNM.out.mono ?_
      rintro e4 w4 ⟨la, ln, lc, rfl, hown, hln, hb4⟩
      have HRL := Lib.hid (RdS.of hown hln)
      have HLN := Lib.hid hln
      have HD4 := Lib.hid (HD1.out.below hb4)
      obtain ⟨na, nn, nc, sa, sn, sc, ⟨-, c1, -⟩, -, hnow, -⟩ := HD4.out.cells
      have HRF := Lib.hid hnow
      have HNL := Lib.hid hnow.ln
      have HB4 := Lib.hid (HBW.out.trans (hb4.mono HBW.out.size))
      have hnn : nn ≤ 60 := by have h1 := HNL.out; have h2 := HAL.out; omega
      clear hown hln hb4 hnow HNM HBW HD1
      go_wp2_with fail
      go_loopw [12, 64] (fun v i wr => ∃ k : Nat, k ≤ nn ∧ i = .int .i64 k ∧ Hid (OwnS wr w4.heap.size v (namesF (A.now.take k) a1)) ∧ Hid (Below w4.heap.size w4 wr)) (fun _ i _ => nn - (intOf i).toNat)
      case atStart => exact ⟨0, Nat.zero_le _, rfl, Lib.hid (World.ownsRow_nil _ _ _ _), Lib.hid (Below.refl _ _)⟩
      case round =>
        clear c1
        obtain ⟨k, hk, rfl, HOW, HB⟩ := hrel
        by_cases hkn : k < nn
        · obtain ⟨b, o, f, ra, rn, rc, rfl, hb, hf, d0, d1, hrb⟩ := HRF.out.at hkn
          have c0 := (HB.out.cell (p := ⟨b, o + 2 * k, none⟩) hb).trans d0
          have c1 := (HB.out.cell (p := ⟨b, o + 2 * k + 1, none⟩) hb).trans d1
          have hix := fun W => run_file_idx W b o nn nc k hkn
          have hfs := HNS.out f.1 (List.mem_map.2 ⟨f, List.mem_of_getElem? hf, rfl⟩)
          have HSN := Lib.hid (names_snoc A.now k f a1 hf)
          obtain ⟨p, hp⟩ : ∃ p, hasP a1 f.1 = p := ⟨_, rfl⟩
          have HBG := Lib.hid (fun W => rbegins_c f.1 a1 W hfs (by unfold maxLen; omega))
          rw [hp] at HSN HBG
          have hlen : (namesF (A.now.take k) a1).length + 1 ≤ 1000000000 := by
            have h1 := List.length_filter_le (hasP a1) ((A.now.take k).map (·.1))
            rw [List.length_map, List.length_take] at h1
            unfold namesF
            omega
          obtain ⟨X, hX⟩ : ∃ X, X = wr.heap.size := ⟨_, rfl⟩
          obtain ⟨w5, hw5⟩ : ∃ w5, w5 = wr.alloc (.cells #[.string f.1, .slice ra rn rc] 49) := ⟨_, rfl⟩
          have hb5 : Below wr.heap.size wr w5 := by rw [hw5]; exact (Below.refl _ _).alloc (Nat.le_refl _) _
          have x0 : w5.cell? ⟨X, 0, none⟩ = some (.string f.1) := by rw [hw5, hX]; simp
          have HB5 := Lib.hid (HB.out.trans (hb5.mono HB.out.size))
          have HOW5 := Lib.hid (show OwnS w5 w4.heap.size u12 (namesF (A.now.take k) a1) from row_keep HOW.out fun j hj => hb5.block j (World.ownsRow.lt HOW.out j hj).2)
          have hsz5 := HB5.out.size
          clear hf d0 d1 hrb hb5 hp hfs
          cases p with
          | true =>
            go_upto_region 16 with fail
            rw [← hX]
            rw [← hw5]
            clear hX hw5 c0 c1 hix
            go_wp2_with fail
            refine (HBG.out _).mono ?_
            rintro e6 w6 ⟨rfl, rfl⟩
            clear HBG HOW HB
            go_wp2_with (at_builtin; (refine wpList_pushS rfl _ _ rfl w4.heap.size u12 _ f.1 rfl HOW5.out hsz5 rfl hlen ?_); intro v7 w7 hown7 hg7)
            have hb7 : Below w4.heap.size w4 w7 := (HB5.out.alloc hsz5 _).grown hg7 (by simp; omega) fun j hj => (World.ownsRow.lt HOW5.out j hj).1
            go_roundw
            case rel => exact ⟨k + 1, by omega, by go_num, by rw [HSN.out]; exact Lib.hid hown7, Lib.hid hb7⟩
            case measure => simp [intOf]; omega
          | false =>
            go_upto_region 16 with fail
            rw [← hX]
            rw [← hw5]
            clear hX hw5 c0 c1 hix
            go_wp2_with fail
            refine (HBG.out _).mono ?_
            rintro e6 w6 ⟨rfl, rfl⟩
            clear HBG HOW HB
            go_wp2_with fail
            go_roundw
            case rel => exact ⟨k + 1, by omega, by go_num, by rw [HSN.out]; simpa using HOW5, HB5⟩
            case measure => simp [intOf]; omega
        · obtain ⟨wa, wn, wc, rfl⟩ : ∃ va vn vc, u12 = .slice va vn vc := by
            rcases HOW.out.2 with ⟨h1, _⟩ | ⟨g, c, cur, h1, _⟩
            · exact ⟨_, _, _, h1⟩
            · exact ⟨_, _, _, h1⟩
          have hall : A.now.take k = A.now := List.take_of_length_le (by have := HNL.out; omega)
          rw [hall] at HOW
          have hwn : wn = (namesF A.now a1).length := by
            rcases HOW.out.2 with ⟨h1, h2⟩ | ⟨g, c, cur, h1, _⟩
            · rw [h2]; exact (Value.slice.inj h1).2.1
            · exact (Value.slice.inj h1).2.1
          obtain rfl : wn = ln := hwn.trans HLN.out.symm
          have HR2 := Lib.hid (RdS.of HOW.out hwn)
          have HR1 := Lib.hid (HRL.out.below HB.out)
          have HBA := Lib.hid (HB4.out.trans (HB.out.mono HB4.out.size))
          have hnb : wn ≤ 1000000 := by
            have h1 := List.length_filter_le (hasP a1) (A.now.map (·.1))
            rw [List.length_map] at h1
            rw [hwn]
            unfold namesF
            have := HAL.out
            omega
          have hww : ((wn : Int) != (wn : Int)) = false := by simp
          clear hall hwn HOW HB HRF HD4 HRL HLN HNL HB4 HAL HNS
          go_wp2_with fail
          go_loopw [89] (fun i w9 => ∃ k q : Nat, k ≤ wn ∧ i = .int .i64 k ∧ w9 = wr.drewN q) (fun i _ => wn - (intOf i).toNat)
          case atStart => exact ⟨0, 0, Nat.zero_le _, rfl, rfl⟩
          case round =>
            obtain ⟨k, q, hk, rfl, rfl⟩ := hrel
            by_cases hkn : k < wn
            · obtain ⟨g1, rfl, hg1, hc1⟩ := HR1.out.2.resolve_left (by omega)
              obtain ⟨g2, rfl, hg2, hc2⟩ := HR2.out.2.resolve_left (by omega)
              obtain ⟨s, hs⟩ : ∃ s, (namesF A.now a1)[k]? = some s := ⟨_, List.getElem?_eq_getElem (by rw [HR1.out.1]; exact hkn)⟩
              have d1 : (wr.drewN q).cell? ⟨g1, k, none⟩ = some (.string s) := hc1 k s hs
              have d2 : (wr.drewN q).cell? ⟨g2, k, none⟩ = some (.string s) := hc2 k s hs
              have e1 : ∀ W : World, (Instr.indexAt 36 (.slice (some ⟨g1, 0, none⟩) wn lc) (.int .i64 (k : Int))).run Try.prog W = .ok (.pointer (some ⟨g1, k, none⟩)) W := fun W => by have := run_str_idx W g1 0 wn lc k hkn; rwa [Nat.zero_add] at this
              have e2 : ∀ W : World, (Instr.indexAt 36 (.slice (some ⟨g2, 0, none⟩) wn wc) (.int .i64 (k : Int))).run Try.prog W = .ok (.pointer (some ⟨g2, k, none⟩)) W := fun W => by have := run_str_idx W g2 0 wn wc k hkn; rwa [Nat.zero_add] at this
              have i0 : (0 : Int) ≤ (k : Int) := by omega
              have i1 : (k : Int) < (wn : Int) := by omega
              clear hs hc1 hc2 e1 e2
              go_wp2_with fail
              (try dsimp only [Act.put, List.setIfInBounds_toArray, List.set_cons_zero, List.set_cons_succ])
              have HS := Lib.hid (show World.cell? (World.drew (wr.drewN q)) ⟨g1, k, none⟩ = some (.string s) ∧ World.cell? (World.drew (wr.drewN q)) ⟨g2, k, none⟩ = some (.string s) from ⟨d1, d2⟩)
              have HL1 := Lib.hid (fun W (hW : World.cell? W ⟨g1, k, none⟩ = some (.string s) ∧ World.cell? W ⟨g2, k, none⟩ = some (.string s)) => run_cell_s W ⟨g1, k, none⟩ _ hW.1)
              have HL2 := Lib.hid (fun W (hW : World.cell? W ⟨g1, k, none⟩ = some (.string s) ∧ World.cell? W ⟨g2, k, none⟩ = some (.string s)) => run_cell_s W ⟨g2, k, none⟩ _ hW.2)
              refine anyH_begin (S := fun W => World.cell? W ⟨g1, k, none⟩ = some (.string s) ∧ World.cell? W ⟨g2, k, none⟩ = some (.string s)) (by kernel_rfl) ?_
              refine anyH_pureG 0 (d := 92) (op := .move (.tmp 10)) (gd := none) (.slice (some ⟨g1, 0, none⟩) wn lc) (by rfl) (fun o ho => wanted_plain ho _) (by kernel_rfl) (by kernel_rfl) (by kernel_rfl) (fun _ _ _ h => h) (fun o ho W hW => by unfold execOp; simp only [ho]; go_simp) HS.out ?_
              simp only [Act.put, List.setIfInBounds_toArray, List.set_cons_zero, List.set_cons_succ]
              refine anyH_pureG 1 (d := 93) (op := .move (.tmp 15)) (gd := none) (.int .i64 (k : Int)) (by rfl) (fun o ho => wanted_plain ho _) (by kernel_rfl) (by kernel_rfl) (by kernel_rfl) (fun _ _ _ h => h) (fun o ho W hW => by unfold execOp; simp only [ho]; go_simp) HS.out ?_
              simp only [Act.put, List.setIfInBounds_toArray, List.set_cons_zero, List.set_cons_succ]
              refine anyH_pureG 2 (d := 94) (op := .indexAddr 36 (.tmp 92) (.tmp 93)) (gd := none) (.pointer (some ⟨g1, k, none⟩)) (by rfl) (fun o ho => wanted_plain ho _) (by kernel_rfl) (by kernel_rfl) (by kernel_rfl) (fun _ _ _ h => h) (fun o1 ho W hW => exec_str_idx0 hkn (x := .tmp 92) (y := .tmp 93) (by rfl) (by rfl) o1 ho W) HS.out ?_
              simp only [Act.put, List.setIfInBounds_toArray, List.set_cons_zero, List.set_cons_succ]
              refine anyH_loadG 3 (d := 95) (ty := 9) (x := (.tmp 94)) (gd := none) (p := .pointer (some ⟨g1, k, none⟩)) (.string s) (by rfl) (fun o ho => wanted_plain ho _) (by kernel_rfl) (by kernel_rfl) (by kernel_rfl) (fun _ _ _ h => h) (by rfl) HL1.out HS.out ?_
              simp only [Act.put, List.setIfInBounds_toArray, List.set_cons_zero, List.set_cons_succ]
              refine anyH_pureG 4 (d := 96) (op := .move (.tmp 12)) (gd := none) (.slice (some ⟨g2, 0, none⟩) wn wc) (by rfl) (fun o ho => wanted_plain ho _) (by kernel_rfl) (by kernel_rfl) (by kernel_rfl) (fun _ _ _ h => h) (fun o ho W hW => by unfold execOp; simp only [ho]; go_simp) HS.out ?_
              simp only [Act.put, List.setIfInBounds_toArray, List.set_cons_zero, List.set_cons_succ]
              refine anyH_pureG 5 (d := 97) (op := .move (.tmp 15)) (gd := none) (.int .i64 (k : Int)) (by rfl) (fun o ho => wanted_plain ho _) (by kernel_rfl) (by kernel_rfl) (by kernel_rfl) (fun _ _ _ h => h) (fun o ho W hW => by unfold execOp; simp only [ho]; go_simp) HS.out ?_
              simp only [Act.put, List.setIfInBounds_toArray, List.set_cons_zero, List.set_cons_succ]
              refine anyH_pureG 6 (d := 98) (op := .indexAddr 36 (.tmp 96) (.tmp 97)) (gd := none) (.pointer (some ⟨g2, k, none⟩)) (by rfl) (fun o ho => wanted_plain ho _) (by kernel_rfl) (by kernel_rfl) (by kernel_rfl) (fun _ _ _ h => h) (fun o1 ho W hW => exec_str_idx0 hkn (x := .tmp 96) (y := .tmp 97) (by rfl) (by rfl) o1 ho W) HS.out ?_
              simp only [Act.put, List.setIfInBounds_toArray, List.set_cons_zero, List.set_cons_succ]
              refine anyH_loadG 7 (d := 99) (ty := 9) (x := (.tmp 98)) (gd := none) (p := .pointer (some ⟨g2, k, none⟩)) (.string s) (by rfl) (fun o ho => wanted_plain ho _) (by kernel_rfl) (by kernel_rfl) (by kernel_rfl) (fun _ _ _ h => h) (by rfl) HL2.out HS.out ?_
              simp only [Act.put, List.setIfInBounds_toArray, List.set_cons_zero, List.set_cons_succ]
              refine anyH_pureG 8 (d := 100) (op := .binOp .neq 9 (.tmp 95) (.tmp 99) 9) (gd := none) (.bool false) (by rfl) (fun o ho => wanted_plain ho _) (by kernel_rfl) (by kernel_rfl) (by kernel_rfl) (fun _ _ _ h => h) (fun o1 ho W hW => by unfold execOp; simp only [ho]; go_simp; try simp) HS.out ?_
              simp only [Act.put, List.setIfInBounds_toArray, List.set_cons_zero, List.set_cons_succ]
              refine wpAnyH_done (by kernel_rfl) ?_ _
              clear HS HL1 HL2
              go_wp2_with fail
              go_roundw
              case rel => exact ⟨k + 1, q + 1, by omega, by go_num, by first | rfl | exact drewN_add _ _ _⟩
              case measure => simp [intOf]; omega
            · go_wp2_with fail
              go_ret
              exact ⟨rfl, HBA.out.trans (by first | exact below_drewN' _ _ _ | exact (below_drewN' _ _ _).trans (below_drewN' _ _ _))⟩
end Go.Proofs.Ytbbljkhjodnfpaa
