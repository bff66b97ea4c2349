/-
  The document's tables: what changes come to.
-/
import Derived.Test.YtihbgigledmliaaTcq
namespace Go.Proofs.Ytihbgigledmliaa
open Go.RowKit
set_option linter.unusedVariables false
theorem exec_pair_idx {b o len cap i : Nat} (hi : i < len) {A : Act} {x y : Operand} (hx : A.eval x = .slice (some ⟨b, o, none⟩) len cap) (hy : A.eval y = .int .i64 (i : Int)) (op : Oper) (ho : op.op = .indexAddr 33 x y) (W : World) :
    (execOp A.eval op).run Try.prog W = .ok (.value (.pointer (some ⟨b, o + 2 * i, none⟩))) W := by
  unfold execOp
  simp only [ho, hx, hy]
  rw [Sem.run_bind, run_pair_idx W b o len cap i hi]
  rfl
theorem exec_rchg_idx {b o len cap i : Nat} (hi : i < len) {A : Act} {x y : Operand} (hx : A.eval x = .slice (some ⟨b, o, none⟩) len cap) (hy : A.eval y = .int .i64 (i : Int)) (op : Oper) (ho : op.op = .indexAddr 22 x y) (W : World) :
    (execOp A.eval op).run Try.prog W = .ok (.value (.pointer (some ⟨b, o + i * 3, none⟩))) W := by
  unfold execOp
  simp only [ho, hx, hy]
  rw [Sem.run_bind, run_rchg_idx W b o len cap i hi]
  rfl
/-- one change done -/
def doP (l : Fls) (c : ByteArray × Bool × List Nat) : Fls := l.take (atP l c.1) ++ (if c.2.1 then [] else [(c.1, c.2.2)]) ++ withoutF (l.drop (atP l c.1)) c.1
def doL (l : Fls) (cs : List (ByteArray × Bool × List Nat)) : Fls := cs.foldl doP l
theorem doP_len (l : Fls) (c : ByteArray × Bool × List Nat) : (doP l c).length ≤ l.length + 1 := by
  unfold doP
  have h1 := without_len (l.drop (atP l c.1)) c.1
  have h2 := atP_le l c.1
  rw [List.length_drop] at h1
  rw [List.length_append, List.length_append, List.length_take]
  have h3 : (if c.2.1 then ([] : Fls) else [(c.1, c.2.2)]).length ≤ 1 := by split <;> simp
  omega
theorem doL_len : ∀ (cs : List (ByteArray × Bool × List Nat)) (l : Fls), (doL l cs).length ≤ l.length + cs.length
  | [], l => by simp [doL]
  | c :: cs, l => by
    have h1 := doL_len cs (doP l c)
    have h2 := doP_len l c
    unfold doL at h1 ⊢
    rw [List.foldl_cons, List.length_cons]
    omega
theorem doL_step {l : Fls} {L : List Cg} {k : Nat} {c : Cg} (hc : L[k]? = some c) : doL l ((L.take (k + 1)).map cgE) = doP (doL l ((L.take k).map cgE)) (cgE c) := by
  rw [List.take_add_one, hc]
  unfold doL
  simp
theorem built_pair (key : ByteArray) (a : Option Addr) (n c : Nat) : Try.prog.built 46 [(0, .string key), (1, .slice a n c)] = some #[.string key, .slice a n c] := by kernel_rfl
theorem wp_layP {w : World} {o : Oper} {a : Act} {K : Act → World → Prop} {Q : Exit → Act → World → Prop} (x : Operand) (ho : o.op = .buildSlice 33 1 #[(0, x)]) (r1 r2 : Value) (hx : a.eval x = .agg #[r1, r2])
    (h : K (a.put o.dst (.slice (some ⟨w.heap.size, 0, none⟩) 1 1)) (w.alloc (.cells #[r1, r2] 46))) : o.wp Try.prog a w K Q := by
  obtain ⟨i0, hi, hz0, hz1, hz2⟩ := info_parts info_pair
  refine wp_buildSlice 33 46 1 _ ho #[r1, r2] i0 _ Try.underlying33 hi hz0 (by rw [hz1]; omega) (by rw [hz1]; omega) ?_ h
  rw [hz1]
  simp only [List.map_toArray, List.map_cons, List.map_nil, hx]
  kernel_rfl
theorem wp_pushP {w : World} {o : Oper} {a : Act} {K : Act → World → Prop} {Q : Exit → Act → World → Prop} (s x : Operand)
    (ho : o.op = .call { callee := .builtin .append, args := #[s, x], argTypes := #[33, 33] })
    (B : Nat) (v : Value) (rs : List FR2) (r : FR2) (h1 : r.1.oneCell' = true) (h2 : r.2.oneCell' = true) (hs : a.eval s = v) (hown : OwnP w B v rs) (hB : B ≤ w.heap.size) (hx : a.eval x = .slice (some ⟨w.heap.size, 0, none⟩) 1 1)
    (hlen : rs.length + 1 ≤ 1000000000)
    (h : ∀ v' w', OwnP w' B v' (rs ++ [r]) → (w.alloc (.cells #[r.1, r.2] 46)).grownBy w' v.ownBlock → K (a.put o.dst v') w') :
    o.wp Try.prog a (w.alloc (.cells #[r.1, r.2] 46)) K Q := by
  obtain ⟨i0, hi, hz0, hz1, hz2⟩ := info_parts info_pair
  have hal : OwnP (w.alloc (.cells #[r.1, r.2] 46)) B v rs := World.ownsRow.alloc hown _
  refine wp_append_own _ s x 33 ho B 46 i0 _ 2 40 Try.underlying33 hi hz0 hz1 hz2 rfl (by decide) v rs.length (fcells rs) hs hal ⟨w.heap.size, 0, none⟩ 1 1 [r.1, r.2] hx rfl ?_ ?_ (by unfold maxLen; omega) (by omega) (by simp; omega) ?_
  · intro j u hj
    rw [Addr.add_mid, Nat.zero_add, cell_of_row _ _ _ _ _ _ (heap_new _ _)]
    simpa using hj
  · intro u hu
    simp only [List.mem_cons, List.not_mem_nil, or_false] at hu
    rcases hu with rfl | rfl
    · exact h1
    · exact h2
  · intro v' w' k1 k2 _
    refine h v' w' ?_ k2
    have e : (rs ++ [r]).length = rs.length + 1 := by simp
    unfold OwnP
    rw [e, fcells_append]
    exact k1
theorem ownP_below {w w' : World} {B : Nat} {v : Value} {rs : List FR2} (h : OwnP w B v rs) (hb : Below w.heap.size w w') : OwnP w' B v rs :=
  ⟨h.1, h.2.imp id fun ⟨g, cap, cur, e1, e2, e3, e4⟩ => ⟨g, cap, cur, e1, e2, (hb.block g (Array.getElem?_eq_some_iff.1 e3).1).trans e3, e4⟩⟩
/-- a value that the call has made may be laid among the pairs -/
theorem fc_twin {N : Nat → Prop} {B : Nat} {W : World} {key : ByteArray} {a : Option Addr} {c : Nat} {val : List Nat} (hN : ∀ k, N k → k < B) (h : Own W B (.slice a val.length c) val) (hz : ∀ z ∈ val, z < 256) : FC (NP N B W) W (key, val) (.string key) (.slice a val.length c) := by
  obtain ⟨a', cap, e, i1, i2, i3⟩ := h.rd hz
  obtain ⟨e1, e2, e3⟩ := Value.slice.inj e
  refine ⟨rfl, _, _, _, rfl, by rw [e1]; exact i3, fun b off s e4 h0 hn => ?_, fun e4 => ?_, by rw [e3]; exact i1⟩
  · rcases h.2 with ⟨e5, _⟩ | ⟨g, cap', cur, e5, hB, hh, _⟩
    · rw [(Value.slice.inj e5).1] at e4; cases e4
    · cases e5
      cases e4
      rcases hn with hn | ⟨_, C, fr, hn⟩
      · have := hN b hn; omega
      · rw [hh] at hn
        simp only [Option.some.injEq, Obj.cells.injEq] at hn
        exact absurd hn.2.1 (by decide)
  · rcases h.2 with ⟨e5, _⟩ | ⟨g, cap', cur, e5, _⟩
    · exact (Value.slice.inj e5).2.2
    · rw [(Value.slice.inj e5).1] at e4; cases e4
theorem take_more {m : Fls} {j a : Nat} {f : ByteArray × List Nat} (hf : m[j]? = some f) (ha : a ≤ j) : (m.take (j + 1)).drop a = (m.take j).drop a ++ [f] := by
  have hj := (List.getElem?_eq_some_iff.1 hf).1
  rw [List.take_add_one, hf, List.drop_append_of_le_length (by rw [List.length_take]; omega)]
  rfl
set_option maxRecDepth 100000 in
set_option maxHeartbeats 16000000 in
theorem do_c {N : Nat → Prop} {w : World} {a : Option Addr} {len cap : Nat} {l : Fls} (h : RF N w a len l) (hN : ∀ k, N k → k < w.heap.size) (ca : Option Addr) (cn cc : Nat) (L : List Cg) (hc : CgIn w ca cn cc L) (hm : len ≤ 1000000) (hcm : cn ≤ 1000000) (hvm : ∀ c ∈ L, c.vn ≤ 140737488355327) :
    Calls Try.prog 10 #[.slice a len cap, .slice ca cn cc] w (RetF N (doL l (L.map cgE)) w) := by
  obtain ⟨hl, hlc, hcx, hh, hs⟩ := hc
  have HRF0 := Lib.hid h
  have HN := Lib.hid hN
  have HCL := Lib.hid hl
  have HCH := Lib.hid hh
  have HS0 := Lib.hid hs
  have HVM := Lib.hid hvm
  have HLN := Lib.hid h.ln
  clear h hN hl hh hs hvm
  go_enter Try.func10, Try.ntmps10
  go_wp2_with fail
  go_loopw [0, 5] (fun v i wr => ∃ k : Nat, k ≤ cn ∧ i = .int .i64 k ∧ (∃ va vn vc, v = .slice va vn vc ∧ Hid (RF N wr va vn (doL l ((L.take k).map cgE)))) ∧ Hid (Below w.heap.size w wr)) (fun _ i _ => cn - (intOf i).toNat)
  case atStart => exact ⟨0, Nat.zero_le _, rfl, ⟨_, _, _, rfl, HRF0⟩, Lib.hid (Below.refl _ _)⟩
  case round =>
    obtain ⟨k, hk, rfl, ⟨va, vn, vc, rfl, HRF⟩, HB⟩ := hrel
    obtain ⟨w1, rfl⟩ : ∃ w1, w1 = wr := ⟨wr, rfl⟩
    by_cases hkc : k < cn
    · obtain ⟨m, hm1⟩ : ∃ m, m = doL l ((L.take k).map cgE) := ⟨_, rfl⟩
      have hml : m.length ≤ 2000000 := by
        have h1 := doL_len ((L.take k).map cgE) l
        rw [List.length_map, List.length_take] at h1
        have := HLN.out
        rw [hm1]
        omega
      obtain ⟨c, hc⟩ : ∃ c, L[k]? = some c := ⟨_, List.getElem?_eq_getElem (by rw [HCL.out]; exact hkc)⟩
      obtain ⟨cb, co, rfl, hcb, hcells⟩ := HCH.out.resolve_left (by omega)
      obtain ⟨d0, d1, d2⟩ := hcells k c hc
      have HDK := Lib.hid (show doL l ((L.take (k + 1)).map cgE) = doP m (cgE c) from by rw [hm1]; exact doL_step hc)
      rw [← hm1] at HRF
      have hmem : c ∈ L := List.mem_of_getElem? hc
      have hcg := HS0.out c hmem
      have hvn := HVM.out c hmem
      obtain ⟨key, gone, ya, yn, yc, val⟩ := c
      simp only at d0 d1 d2 hvn
      have HVB := Lib.hid (show ∀ z ∈ val, z < 256 from hcg.1.2.1)
      have HTW := Lib.hid (fun W (hW : Below w.heap.size w W) => twin_c ya yn yc val W (hcg.1.below hW) hvn)
      have HML := Lib.hid (show vn = m.length from HRF.out.ln)
      have HVL := Lib.hid (show vn ≤ 2000000 from by rw [HML.out]; exact hml)
      have HN1 := Lib.hid (fun k hk => Nat.lt_of_lt_of_le (HN.out k hk) HB.out.size)
      have HC0 := Lib.hid ((HB.out.cell (p := ⟨cb, co + k * 3, none⟩) hcb).trans d0)
      have HC1 := Lib.hid ((HB.out.cell (p := ⟨cb, co + k * 3 + 1, none⟩) hcb).trans d1)
      have HC2 := Lib.hid ((HB.out.cell (p := ⟨cb, co + k * 3 + 2, none⟩) hcb).trans d2)
      have HCB := Lib.hid (Nat.lt_of_lt_of_le hcb HB.out.size)
      have hix := fun W => run_rchg_idx W cb co cn cc k hkc
      obtain ⟨at1, hat⟩ : ∃ x, x = atP m key := ⟨_, rfl⟩
      have HFD := Lib.hid (pfind_c (cap := vc) HRF.out key (by have := HVL.out; omega))
      rw [← hat] at HFD
      have HAT := Lib.hid hat
      have HATL := Lib.hid (show at1 ≤ vn from by rw [HML.out, hat]; exact atP_le m key)
      have c0 := HC0.out
      clear hm1 hml hc hcb hcells d0 d1 d2 hmem hcg hvn hat
      go_wp2_with fail
      refine (HFD.out).mono ?_
      rintro e2 w2 ⟨rfl, hw2⟩
      subst w2
      clear c0 HFD
      go_wp2_with fail
      go_loopw [7, 8] (fun v i wq => ∃ j : Nat, j ≤ at1 ∧ i = .int .i64 j ∧ (∃ rs, Hid (OwnP wq w1.heap.size v rs) ∧ Hid (FRs (NP N w1.heap.size wq) wq rs (m.take j))) ∧ Hid (Below w1.heap.size w1 wq)) (fun _ i _ => at1 - (intOf i).toNat)
      case atStart => exact ⟨0, Nat.zero_le _, rfl, ⟨[], Lib.hid (World.ownsRow_nil _ _ _ _), Lib.hid (FRs.nil _ _)⟩, Lib.hid (Below.refl _ _)⟩
      case round =>
        obtain ⟨j, hj, rfl, ⟨rs, HOW, HFR⟩, HB3⟩ := hrel
        obtain ⟨w3, rfl⟩ : ∃ w3, w3 = wr := ⟨wr, rfl⟩
        have hvl := HVL.out
        have hatl := HATL.out
        by_cases hja : j < at1
        · have hjv : j < vn := Nat.lt_of_lt_of_le hja HATL.out
          obtain ⟨pb, po, f, ra, rn, rc, rfl, hpb, hf, p0, p1, hrb⟩ := (HRF.out.npw HB3.out).at hjv
          have hix3 := fun W => run_pair_idx W pb po vn vc j hjv
          have HTK := Lib.hid (show m.take (j + 1) = m.take j ++ [f] by rw [List.take_add_one, hf]; rfl)
          have HRB := Lib.hid (show FC (NP N w1.heap.size w3) w3 f (.string f.1) (.slice ra rn rc) from ⟨rfl, _, _, _, rfl, hrb⟩)
          have hsz := HB3.out.size
          have hrl : rs.length + 1 ≤ 1000000000 := by
            have h1 := HFR.out.ln
            rw [List.length_take] at h1
            have := HVL.out
            omega
          clear hf hrb
          go_wp2_with (at_builtin; (refine wpList_pushP rfl _ _ rfl w1.heap.size u7 rs (.string f.1, .slice ra rn rc) rfl rfl rfl HOW.out hsz rfl hrl ?_); intro v5 w5 hown5 hg5)
          obtain ⟨hfr5, hb5⟩ := push_np (r := (.string f.1, .slice ra rn rc)) (f := f) hsz HOW.out HFR.out HRB.out hg5
          go_roundw
          case rel => exact ⟨j + 1, by omega, by go_num, ⟨_, Lib.hid hown5, by rw [HTK.out]; exact Lib.hid hfr5⟩, Lib.hid (HB3.out.trans hb5)⟩
          case measure => simp [intOf]; omega
        · obtain rfl : at1 = j := by omega
          have c1 := (HB3.out.cell (p := ⟨cb, co + k * 3 + 1, none⟩) HCB.out).trans HC1.out
          cases gone with
          | true =>
            have HFR2 := Lib.hid (show FRs (NP N w1.heap.size w3) w3 rs (m.take at1 ++ []) from by rw [List.append_nil]; exact HFR.out)
            clear HFR
            go_wp2_with fail
            clear c1
            go_loopw [7, 9] (fun v i wq => ∃ j : Nat, at1 ≤ j ∧ j ≤ vn ∧ i = .int .i64 j ∧ (∃ rs, Hid (OwnP wq w1.heap.size v rs) ∧ Hid (FRs (NP N w1.heap.size wq) wq rs (m.take at1 ++ ([] : Fls) ++ withoutF ((m.take j).drop at1) key))) ∧ Hid (Below w1.heap.size w1 wq)) (fun _ i _ => vn - (intOf i).toNat)
            case atStart => exact ⟨at1, Nat.le_refl _, HATL.out, rfl, ⟨_, HOW, by rw [List.drop_of_length_le (by rw [List.length_take]; omega)]; simpa [withoutF] using HFR2⟩, HB3⟩
            case round =>
              clear HOW HFR2 HB3
              obtain ⟨j, hja, hjl, rfl, ⟨rs, HOW, HFR⟩, HB3⟩ := hrel
              obtain ⟨w3, rfl⟩ : ∃ w3, w3 = wr := ⟨wr, rfl⟩
              have hvl := HVL.out
              by_cases hjv : j < vn
              · obtain ⟨pb, po, f, ra, rn, rc, rfl, hpb, hf, p0, p1, hrb⟩ := (HRF.out.npw HB3.out).at hjv
                have hix3 := fun W => run_pair_idx W pb po vn vc j hjv
                have HTK := Lib.hid (show (m.take (j + 1)).drop at1 = (m.take j).drop at1 ++ [f] from take_more hf hja)
                have HRB := Lib.hid hrb
                have HP := Lib.hid (And.intro p0 p1)
                have HPB := Lib.hid hpb
                have hsz := HB3.out.size
                have hrl : rs.length + 1 ≤ 1000000000 := by
                  have h1 := HFR.out.ln
                  have h2 := without_len ((m.take j).drop at1) key
                  rw [List.length_append, List.length_append, List.length_take] at h1
                  rw [List.length_drop, List.length_take] at h2
                  have h4 : (([] : Fls) : Fls).length ≤ 1 := by simp
                  have h5 := HVL.out
                  omega
                clear hf hrb hpb p0 p1
                by_cases e : f.1 = key
                · have HW := Lib.hid (show withoutF ((m.take (j + 1)).drop at1) key = withoutF ((m.take j).drop at1) key by rw [HTK.out, without_snoc, if_pos e])
                  have hne : f.1.toList = key.toList := by rw [e]
                  clear e
                  obtain ⟨w4, hw4⟩ : ∃ W, W = World.drew w3 := ⟨_, rfl⟩
                  have hb4 : Below w3.heap.size w3 w4 := by rw [hw4]; exact below_drewN' _ w3 1
                  have HS := Lib.hid (show w4.cell? ⟨cb, co + k * 3, none⟩ = some (.string key) ∧ w4.cell? ⟨pb, po + 2 * j, none⟩ = some (.string f.1) from ⟨(hb4.cell (p := ⟨cb, co + k * 3, none⟩) (Nat.lt_of_lt_of_le HCB.out HB3.out.size)).trans ((HB3.out.cell (p := ⟨cb, co + k * 3, none⟩) HCB.out).trans HC0.out), (hb4.cell (p := ⟨pb, po + 2 * j, none⟩) HPB.out).trans HP.out.1⟩)
                  have HL1 := Lib.hid (fun W (hW : W.cell? ⟨cb, co + k * 3, none⟩ = some (.string key) ∧ W.cell? ⟨pb, po + 2 * j, none⟩ = some (.string f.1)) => run_cell_s W ⟨cb, co + k * 3, none⟩ _ hW.1)
                  have HL3 := Lib.hid (fun W (hW : W.cell? ⟨cb, co + k * 3, none⟩ = some (.string key) ∧ W.cell? ⟨pb, po + 2 * j, none⟩ = some (.string f.1)) => run_cell_s W ⟨pb, po + 2 * j, none⟩ _ hW.2)
                  go_wp2_with fail
                  refine anyH_begin (S := fun W => W.cell? ⟨cb, co + k * 3, none⟩ = some (.string key) ∧ W.cell? ⟨pb, po + 2 * j, none⟩ = some (.string f.1)) (by kernel_rfl) ?_
                  rw [← hw4]
                  clear hw4
                  refine anyH_pureG 0 (d := 63) (op := .move (.tmp 0)) (gd := none) (.slice (some ⟨pb, po, none⟩) vn vc) (by rfl) (fun o ho => wanted_plain ho _) (by kernel_rfl) (by kernel_rfl) (by kernel_rfl) (fun _ _ _ h => h) (fun o ho W hW => by unfold execOp; simp only [ho]; go_simp) HS.out ?_
                  simp only [Act.put, List.setIfInBounds_toArray, List.set_cons_zero, List.set_cons_succ]
                  refine anyH_pureG 1 (d := 64) (op := .move (.tmp 9)) (gd := none) (.int .i64 (j : Int)) (by rfl) (fun o ho => wanted_plain ho _) (by kernel_rfl) (by kernel_rfl) (by kernel_rfl) (fun _ _ _ h => h) (fun o ho W hW => by unfold execOp; simp only [ho]; go_simp) HS.out ?_
                  simp only [Act.put, List.setIfInBounds_toArray, List.set_cons_zero, List.set_cons_succ]
                  refine anyH_pureG 2 (d := 65) (op := .indexAddr 33 (.tmp 63) (.tmp 64)) (gd := none) (.pointer (some ⟨pb, po + 2 * j, none⟩)) (by rfl) (fun o ho => wanted_plain ho _) (by kernel_rfl) (by kernel_rfl) (by kernel_rfl) (fun _ _ _ h => h) (fun o1 ho W hW => exec_pair_idx hjv (x := .tmp 63) (y := .tmp 64) (by rfl) (by rfl) o1 ho W) HS.out ?_
                  simp only [Act.put, List.setIfInBounds_toArray, List.set_cons_zero, List.set_cons_succ]
                  refine anyH_pureG 3 (d := 66) (op := .fieldAddr 46 (.tmp 65) 0) (gd := none) (.pointer (some ⟨pb, po + 2 * j, none⟩)) (by rfl) (fun o ho => wanted_plain ho _) (by kernel_rfl) (by kernel_rfl) (by kernel_rfl) (fun _ _ _ h => h) (fun o ho W hW => by unfold execOp; simp only [ho]; go_simp) HS.out ?_
                  simp only [Act.put, List.setIfInBounds_toArray, List.set_cons_zero, List.set_cons_succ]
                  refine anyH_loadG 4 (d := 67) (ty := 9) (x := (.tmp 66)) (gd := none) (p := .pointer (some ⟨pb, po + 2 * j, none⟩)) (.string f.1) (by rfl) (fun o ho => wanted_plain ho _) (by kernel_rfl) (by kernel_rfl) (by kernel_rfl) (fun _ _ _ h => h) (by rfl) HL3.out HS.out ?_
                  simp only [Act.put, List.setIfInBounds_toArray, List.set_cons_zero, List.set_cons_succ]
                  refine anyH_pureG 5 (d := 68) (op := .move (.tmp 1)) (gd := none) (.slice (some ⟨cb, co, none⟩) cn cc) (by rfl) (fun o ho => wanted_plain ho _) (by kernel_rfl) (by kernel_rfl) (by kernel_rfl) (fun _ _ _ h => h) (fun o ho W hW => by unfold execOp; simp only [ho]; go_simp) HS.out ?_
                  simp only [Act.put, List.setIfInBounds_toArray, List.set_cons_zero, List.set_cons_succ]
                  refine anyH_pureG 6 (d := 69) (op := .move (.tmp 5)) (gd := none) (.int .i64 (k : Int)) (by rfl) (fun o ho => wanted_plain ho _) (by kernel_rfl) (by kernel_rfl) (by kernel_rfl) (fun _ _ _ h => h) (fun o ho W hW => by unfold execOp; simp only [ho]; go_simp) HS.out ?_
                  simp only [Act.put, List.setIfInBounds_toArray, List.set_cons_zero, List.set_cons_succ]
                  refine anyH_pureG 7 (d := 70) (op := .indexAddr 22 (.tmp 68) (.tmp 69)) (gd := none) (.pointer (some ⟨cb, co + k * 3, none⟩)) (by rfl) (fun o ho => wanted_plain ho _) (by kernel_rfl) (by kernel_rfl) (by kernel_rfl) (fun _ _ _ h => h) (fun o1 ho W hW => exec_rchg_idx hkc (x := .tmp 68) (y := .tmp 69) (by rfl) (by rfl) o1 ho W) HS.out ?_
                  simp only [Act.put, List.setIfInBounds_toArray, List.set_cons_zero, List.set_cons_succ]
                  refine anyH_pureG 8 (d := 71) (op := .fieldAddr 67 (.tmp 70) 0) (gd := none) (.pointer (some ⟨cb, co + k * 3, none⟩)) (by rfl) (fun o ho => wanted_plain ho _) (by kernel_rfl) (by kernel_rfl) (by kernel_rfl) (fun _ _ _ h => h) (fun o ho W hW => by unfold execOp; simp only [ho]; go_simp) HS.out ?_
                  simp only [Act.put, List.setIfInBounds_toArray, List.set_cons_zero, List.set_cons_succ]
                  refine anyH_loadG 9 (d := 72) (ty := 9) (x := (.tmp 71)) (gd := none) (p := .pointer (some ⟨cb, co + k * 3, none⟩)) (.string key) (by rfl) (fun o ho => wanted_plain ho _) (by kernel_rfl) (by kernel_rfl) (by kernel_rfl) (fun _ _ _ h => h) (by rfl) HL1.out HS.out ?_
                  simp only [Act.put, List.setIfInBounds_toArray, List.set_cons_zero, List.set_cons_succ]
                  refine anyH_pureG 10 (d := 73) (op := .binOp .neq 9 (.tmp 67) (.tmp 72) 9) (gd := none) (.bool false) (by rfl) (fun o ho => wanted_plain ho _) (by kernel_rfl) (by kernel_rfl) (by kernel_rfl) (fun _ _ _ h => h) (fun o ho W hW => by unfold execOp; simp only [ho]; go_simp; try simp) HS.out ?_
                  simp only [Act.put, List.setIfInBounds_toArray, List.set_cons_zero, List.set_cons_succ]
                  refine wpAnyH_done (by kernel_rfl) ?_ _
                  clear HS HL1 HL3
                  go_wp2_with fail
                  go_roundw
                  case rel => exact ⟨j + 1, by omega, by omega, by go_num, ⟨rs, Lib.hid (ownP_below HOW.out hb4), by rw [HW.out]; exact Lib.hid (HFR.out.np hb4)⟩, Lib.hid (HB3.out.trans (hb4.mono HB3.out.size))⟩
                  case measure => simp [intOf]; omega
                · have HW := Lib.hid (show withoutF ((m.take (j + 1)).drop at1) key = withoutF ((m.take j).drop at1) key ++ [f] by rw [HTK.out, without_snoc, if_neg e])
                  have hne := ba_neq e
                  clear e
                  obtain ⟨w4, hw4⟩ : ∃ W, W = World.drew w3 := ⟨_, rfl⟩
                  have hb4 : Below w3.heap.size w3 w4 := by rw [hw4]; exact below_drewN' _ w3 1
                  have HS := Lib.hid (show w4.cell? ⟨cb, co + k * 3, none⟩ = some (.string key) ∧ w4.cell? ⟨pb, po + 2 * j, none⟩ = some (.string f.1) from ⟨(hb4.cell (p := ⟨cb, co + k * 3, none⟩) (Nat.lt_of_lt_of_le HCB.out HB3.out.size)).trans ((HB3.out.cell (p := ⟨cb, co + k * 3, none⟩) HCB.out).trans HC0.out), (hb4.cell (p := ⟨pb, po + 2 * j, none⟩) HPB.out).trans HP.out.1⟩)
                  have HL1 := Lib.hid (fun W (hW : W.cell? ⟨cb, co + k * 3, none⟩ = some (.string key) ∧ W.cell? ⟨pb, po + 2 * j, none⟩ = some (.string f.1)) => run_cell_s W ⟨cb, co + k * 3, none⟩ _ hW.1)
                  have HL3 := Lib.hid (fun W (hW : W.cell? ⟨cb, co + k * 3, none⟩ = some (.string key) ∧ W.cell? ⟨pb, po + 2 * j, none⟩ = some (.string f.1)) => run_cell_s W ⟨pb, po + 2 * j, none⟩ _ hW.2)
                  go_wp2_with fail
                  refine anyH_begin (S := fun W => W.cell? ⟨cb, co + k * 3, none⟩ = some (.string key) ∧ W.cell? ⟨pb, po + 2 * j, none⟩ = some (.string f.1)) (by kernel_rfl) ?_
                  rw [← hw4]
                  clear hw4
                  refine anyH_pureG 0 (d := 63) (op := .move (.tmp 0)) (gd := none) (.slice (some ⟨pb, po, none⟩) vn vc) (by rfl) (fun o ho => wanted_plain ho _) (by kernel_rfl) (by kernel_rfl) (by kernel_rfl) (fun _ _ _ h => h) (fun o ho W hW => by unfold execOp; simp only [ho]; go_simp) HS.out ?_
                  simp only [Act.put, List.setIfInBounds_toArray, List.set_cons_zero, List.set_cons_succ]
                  refine anyH_pureG 1 (d := 64) (op := .move (.tmp 9)) (gd := none) (.int .i64 (j : Int)) (by rfl) (fun o ho => wanted_plain ho _) (by kernel_rfl) (by kernel_rfl) (by kernel_rfl) (fun _ _ _ h => h) (fun o ho W hW => by unfold execOp; simp only [ho]; go_simp) HS.out ?_
                  simp only [Act.put, List.setIfInBounds_toArray, List.set_cons_zero, List.set_cons_succ]
                  refine anyH_pureG 2 (d := 65) (op := .indexAddr 33 (.tmp 63) (.tmp 64)) (gd := none) (.pointer (some ⟨pb, po + 2 * j, none⟩)) (by rfl) (fun o ho => wanted_plain ho _) (by kernel_rfl) (by kernel_rfl) (by kernel_rfl) (fun _ _ _ h => h) (fun o1 ho W hW => exec_pair_idx hjv (x := .tmp 63) (y := .tmp 64) (by rfl) (by rfl) o1 ho W) HS.out ?_
                  simp only [Act.put, List.setIfInBounds_toArray, List.set_cons_zero, List.set_cons_succ]
                  refine anyH_pureG 3 (d := 66) (op := .fieldAddr 46 (.tmp 65) 0) (gd := none) (.pointer (some ⟨pb, po + 2 * j, none⟩)) (by rfl) (fun o ho => wanted_plain ho _) (by kernel_rfl) (by kernel_rfl) (by kernel_rfl) (fun _ _ _ h => h) (fun o ho W hW => by unfold execOp; simp only [ho]; go_simp) HS.out ?_
                  simp only [Act.put, List.setIfInBounds_toArray, List.set_cons_zero, List.set_cons_succ]
                  refine anyH_loadG 4 (d := 67) (ty := 9) (x := (.tmp 66)) (gd := none) (p := .pointer (some ⟨pb, po + 2 * j, none⟩)) (.string f.1) (by rfl) (fun o ho => wanted_plain ho _) (by kernel_rfl) (by kernel_rfl) (by kernel_rfl) (fun _ _ _ h => h) (by rfl) HL3.out HS.out ?_
                  simp only [Act.put, List.setIfInBounds_toArray, List.set_cons_zero, List.set_cons_succ]
                  refine anyH_pureG 5 (d := 68) (op := .move (.tmp 1)) (gd := none) (.slice (some ⟨cb, co, none⟩) cn cc) (by rfl) (fun o ho => wanted_plain ho _) (by kernel_rfl) (by kernel_rfl) (by kernel_rfl) (fun _ _ _ h => h) (fun o ho W hW => by unfold execOp; simp only [ho]; go_simp) HS.out ?_
                  simp only [Act.put, List.setIfInBounds_toArray, List.set_cons_zero, List.set_cons_succ]
                  refine anyH_pureG 6 (d := 69) (op := .move (.tmp 5)) (gd := none) (.int .i64 (k : Int)) (by rfl) (fun o ho => wanted_plain ho _) (by kernel_rfl) (by kernel_rfl) (by kernel_rfl) (fun _ _ _ h => h) (fun o ho W hW => by unfold execOp; simp only [ho]; go_simp) HS.out ?_
                  simp only [Act.put, List.setIfInBounds_toArray, List.set_cons_zero, List.set_cons_succ]
                  refine anyH_pureG 7 (d := 70) (op := .indexAddr 22 (.tmp 68) (.tmp 69)) (gd := none) (.pointer (some ⟨cb, co + k * 3, none⟩)) (by rfl) (fun o ho => wanted_plain ho _) (by kernel_rfl) (by kernel_rfl) (by kernel_rfl) (fun _ _ _ h => h) (fun o1 ho W hW => exec_rchg_idx hkc (x := .tmp 68) (y := .tmp 69) (by rfl) (by rfl) o1 ho W) HS.out ?_
                  simp only [Act.put, List.setIfInBounds_toArray, List.set_cons_zero, List.set_cons_succ]
                  refine anyH_pureG 8 (d := 71) (op := .fieldAddr 67 (.tmp 70) 0) (gd := none) (.pointer (some ⟨cb, co + k * 3, none⟩)) (by rfl) (fun o ho => wanted_plain ho _) (by kernel_rfl) (by kernel_rfl) (by kernel_rfl) (fun _ _ _ h => h) (fun o ho W hW => by unfold execOp; simp only [ho]; go_simp) HS.out ?_
                  simp only [Act.put, List.setIfInBounds_toArray, List.set_cons_zero, List.set_cons_succ]
                  refine anyH_loadG 9 (d := 72) (ty := 9) (x := (.tmp 71)) (gd := none) (p := .pointer (some ⟨cb, co + k * 3, none⟩)) (.string key) (by rfl) (fun o ho => wanted_plain ho _) (by kernel_rfl) (by kernel_rfl) (by kernel_rfl) (fun _ _ _ h => h) (by rfl) HL1.out HS.out ?_
                  simp only [Act.put, List.setIfInBounds_toArray, List.set_cons_zero, List.set_cons_succ]
                  refine anyH_pureG 10 (d := 73) (op := .binOp .neq 9 (.tmp 67) (.tmp 72) 9) (gd := none) (.bool true) (by rfl) (fun o ho => wanted_plain ho _) (by kernel_rfl) (by kernel_rfl) (by kernel_rfl) (fun _ _ _ h => h) (fun o ho W hW => by unfold execOp; simp only [ho]; go_simp; try simp) HS.out ?_
                  simp only [Act.put, List.setIfInBounds_toArray, List.set_cons_zero, List.set_cons_succ]
                  refine wpAnyH_done (by kernel_rfl) ?_ _
                  clear HS HL1 HL3
                  have HOW4 := Lib.hid (ownP_below HOW.out hb4)
                  have HFR4 := Lib.hid (HFR.out.np hb4)
                  have HB4 := Lib.hid (HB3.out.trans (hb4.mono HB3.out.size))
                  have q0 := (hb4.cell (p := ⟨pb, po + 2 * j, none⟩) HPB.out).trans HP.out.1
                  have q1 := (hb4.cell (p := ⟨pb, po + 2 * j + 1, none⟩) HPB.out).trans HP.out.2
                  have HRB4 := Lib.hid (show FC (NP N w1.heap.size w4) w4 f (.string f.1) (.slice ra rn rc) from FC.np ⟨rfl, _, _, _, rfl, HRB.out⟩ hb4)
                  have hsz4 := HB4.out.size
                  clear HOW HFR hb4 HB3 hne
                  go_wp2_with (at_builtin; (refine wpList_pushP rfl _ _ rfl w1.heap.size u7 rs (.string f.1, .slice ra rn rc) rfl rfl rfl HOW4.out hsz4 rfl hrl ?_); intro v5 w5 hown5 hg5)
                  obtain ⟨hfr5, hb5⟩ := push_np (r := (.string f.1, .slice ra rn rc)) (f := f) hsz4 HOW4.out HFR4.out HRB4.out hg5
                  go_roundw
                  case rel => exact ⟨j + 1, by omega, by omega, by go_num, ⟨_, Lib.hid hown5, by rw [HW.out, ← List.append_assoc]; exact Lib.hid hfr5⟩, Lib.hid (HB4.out.trans hb5)⟩
                  case measure => simp [intOf]; omega
              · have hjn : j = vn := by omega
                have HE := Lib.hid (show m.take at1 ++ ([] : Fls) ++ withoutF ((m.take j).drop at1) key = doP m (cgE ⟨key, true, ya, yn, yc, val⟩) from by
                  have e9 : m.take j = m := List.take_of_length_le (by have := HML.out; omega)
                  rw [e9]
                  show _ = m.take (atP m key) ++ (if true = true then [] else [(key, val)]) ++ withoutF (m.drop (atP m key)) key
                  rw [← HAT.out]
                  rfl)
                obtain ⟨xa, xn, xc, rfl⟩ : ∃ xa xn xc, u7 = .slice xa xn xc := by
                  rcases HOW.out.2 with ⟨h1, _⟩ | ⟨g, c, cur, h1, _⟩
                  · exact ⟨_, _, _, h1⟩
                  · exact ⟨_, _, _, h1⟩
                have HRX := Lib.hid (show RF N w3 xa xn (doL l ((L.take (k + 1)).map cgE)) from by
                  rw [HDK.out, ← HE.out]
                  exact (RF.ofP HOW.out (HFR.out.weak fun k hk => .inl hk) HN1.out).1)
                have HBX := Lib.hid (HB.out.trans (HB3.out.mono HB.out.size))
                clear HOW HFR HB3 HE
                go_wp2_with fail
                go_roundw
                case rel => exact ⟨k + 1, by omega, by go_num, ⟨_, _, _, rfl, HRX⟩, HBX⟩
                case measure => simp [intOf]; omega
          | false =>
            go_wp2_with fail
            clear c1
            obtain ⟨w4, hw4⟩ : ∃ W, W = World.drew w3 := ⟨_, rfl⟩
            have hb4 : Below w3.heap.size w3 w4 := by rw [hw4]; exact below_drewN' _ w3 1
            have HB4 := Lib.hid (HB3.out.trans (hb4.mono HB3.out.size))
            have HOW4 := Lib.hid (ownP_below HOW.out hb4)
            have HFR4 := Lib.hid (HFR.out.np hb4)
            have HBW4 := Lib.hid (HB.out.trans (HB4.out.mono HB.out.size))
            have HS := Lib.hid (show w4.cell? ⟨cb, co + k * 3, none⟩ = some (.string key) ∧ w4.cell? ⟨cb, co + k * 3 + 2, none⟩ = some (.slice ya yn yc) from ⟨(HB4.out.cell (p := ⟨cb, co + k * 3, none⟩) HCB.out).trans HC0.out, (HB4.out.cell (p := ⟨cb, co + k * 3 + 2, none⟩) HCB.out).trans HC2.out⟩)
            have HL1 := Lib.hid (fun W (hW : W.cell? ⟨cb, co + k * 3, none⟩ = some (.string key) ∧ W.cell? ⟨cb, co + k * 3 + 2, none⟩ = some (.slice ya yn yc)) => run_cell_s W ⟨cb, co + k * 3, none⟩ _ hW.1)
            have HL2 := Lib.hid (show ∀ W, (W.cell? ⟨cb, co + k * 3, none⟩ = some (.string key) ∧ W.cell? ⟨cb, co + k * 3 + 2, none⟩ = some (.slice ya yn yc)) → (Instr.loadAt 41 (.pointer (some ⟨cb, co + k * 3 + 2, none⟩))).run Try.prog W = .ok (.slice ya yn yc) W from fun W hW => by have c2 := hW.2; go_simp)
            have HRL := Lib.hid (show rs.length + 1 ≤ 1000000000 from by
              have h1 := HFR.out.ln
              rw [List.length_take] at h1
              have := HVL.out
              omega)
            clear hb4 HOW HFR HB3
            refine anyH_begin (S := fun W => W.cell? ⟨cb, co + k * 3, none⟩ = some (.string key) ∧ W.cell? ⟨cb, co + k * 3 + 2, none⟩ = some (.slice ya yn yc)) (by kernel_rfl) ?_
            rw [← hw4]
            clear hw4
            refine anyH_pureG 0 (d := 41) (op := .move (.tmp 7)) (gd := none) (u7) (by rfl) (fun o ho => wanted_plain ho _) (by kernel_rfl) (by kernel_rfl) (by kernel_rfl) (fun _ _ _ h => h) (fun o ho W hW => by unfold execOp; simp only [ho]; go_simp) HS.out ?_
            simp only [Act.put, List.setIfInBounds_toArray, List.set_cons_zero, List.set_cons_succ]
            refine anyH_pureG 1 (d := 42) (op := .move (.tmp 1)) (gd := none) (.slice (some ⟨cb, co, none⟩) cn cc) (by rfl) (fun o ho => wanted_plain ho _) (by kernel_rfl) (by kernel_rfl) (by kernel_rfl) (fun _ _ _ h => h) (fun o ho W hW => by unfold execOp; simp only [ho]; go_simp) HS.out ?_
            simp only [Act.put, List.setIfInBounds_toArray, List.set_cons_zero, List.set_cons_succ]
            refine anyH_pureG 2 (d := 43) (op := .move (.tmp 5)) (gd := none) (.int .i64 (k : Int)) (by rfl) (fun o ho => wanted_plain ho _) (by kernel_rfl) (by kernel_rfl) (by kernel_rfl) (fun _ _ _ h => h) (fun o ho W hW => by unfold execOp; simp only [ho]; go_simp) HS.out ?_
            simp only [Act.put, List.setIfInBounds_toArray, List.set_cons_zero, List.set_cons_succ]
            refine anyH_pureG 3 (d := 44) (op := .indexAddr 22 (.tmp 42) (.tmp 43)) (gd := none) (.pointer (some ⟨cb, co + k * 3, none⟩)) (by rfl) (fun o ho => wanted_plain ho _) (by kernel_rfl) (by kernel_rfl) (by kernel_rfl) (fun _ _ _ h => h) (fun o1 ho W hW => exec_rchg_idx hkc (x := .tmp 42) (y := .tmp 43) (by rfl) (by rfl) o1 ho W) HS.out ?_
            simp only [Act.put, List.setIfInBounds_toArray, List.set_cons_zero, List.set_cons_succ]
            refine anyH_pureG 4 (d := 45) (op := .fieldAddr 67 (.tmp 44) 0) (gd := none) (.pointer (some ⟨cb, co + k * 3, none⟩)) (by rfl) (fun o ho => wanted_plain ho _) (by kernel_rfl) (by kernel_rfl) (by kernel_rfl) (fun _ _ _ h => h) (fun o ho W hW => by unfold execOp; simp only [ho]; go_simp) HS.out ?_
            simp only [Act.put, List.setIfInBounds_toArray, List.set_cons_zero, List.set_cons_succ]
            refine anyH_loadG 5 (d := 46) (ty := 9) (x := (.tmp 45)) (gd := none) (p := .pointer (some ⟨cb, co + k * 3, none⟩)) (.string key) (by rfl) (fun o ho => wanted_plain ho _) (by kernel_rfl) (by kernel_rfl) (by kernel_rfl) (fun _ _ _ h => h) (by rfl) HL1.out HS.out ?_
            simp only [Act.put, List.setIfInBounds_toArray, List.set_cons_zero, List.set_cons_succ]
            refine anyH_pureG 6 (d := 47) (op := .move (.tmp 1)) (gd := none) (.slice (some ⟨cb, co, none⟩) cn cc) (by rfl) (fun o ho => wanted_plain ho _) (by kernel_rfl) (by kernel_rfl) (by kernel_rfl) (fun _ _ _ h => h) (fun o ho W hW => by unfold execOp; simp only [ho]; go_simp) HS.out ?_
            simp only [Act.put, List.setIfInBounds_toArray, List.set_cons_zero, List.set_cons_succ]
            refine anyH_pureG 7 (d := 48) (op := .move (.tmp 5)) (gd := none) (.int .i64 (k : Int)) (by rfl) (fun o ho => wanted_plain ho _) (by kernel_rfl) (by kernel_rfl) (by kernel_rfl) (fun _ _ _ h => h) (fun o ho W hW => by unfold execOp; simp only [ho]; go_simp) HS.out ?_
            simp only [Act.put, List.setIfInBounds_toArray, List.set_cons_zero, List.set_cons_succ]
            refine anyH_pureG 8 (d := 49) (op := .indexAddr 22 (.tmp 47) (.tmp 48)) (gd := none) (.pointer (some ⟨cb, co + k * 3, none⟩)) (by rfl) (fun o ho => wanted_plain ho _) (by kernel_rfl) (by kernel_rfl) (by kernel_rfl) (fun _ _ _ h => h) (fun o1 ho W hW => exec_rchg_idx hkc (x := .tmp 47) (y := .tmp 48) (by rfl) (by rfl) o1 ho W) HS.out ?_
            simp only [Act.put, List.setIfInBounds_toArray, List.set_cons_zero, List.set_cons_succ]
            refine anyH_pureG 9 (d := 50) (op := .fieldAddr 67 (.tmp 49) 2) (gd := none) (.pointer (some ⟨cb, co + k * 3 + 2, none⟩)) (by rfl) (fun o ho => wanted_plain ho _) (by kernel_rfl) (by kernel_rfl) (by kernel_rfl) (fun _ _ _ h => h) (fun o ho W hW => by unfold execOp; simp only [ho]; go_simp) HS.out ?_
            simp only [Act.put, List.setIfInBounds_toArray, List.set_cons_zero, List.set_cons_succ]
            refine anyH_loadG 10 (d := 51) (ty := 41) (x := (.tmp 50)) (gd := none) (p := .pointer (some ⟨cb, co + k * 3 + 2, none⟩)) (.slice ya yn yc) (by rfl) (fun o ho => wanted_plain ho _) (by kernel_rfl) (by kernel_rfl) (by kernel_rfl) (fun _ _ _ h => h) (by rfl) HL2.out HS.out ?_
            simp only [Act.put, List.setIfInBounds_toArray, List.set_cons_zero, List.set_cons_succ]
            refine anyH_callG 11 (d := some 52) (f := 25) (xs := #[(.tmp 51)]) (ts := #[41]) (gd := none) (vs := #[.slice ya yn yc]) (by kernel_rfl) (by rfl) (fun o ho => wanted_plain ho _) (by go_simp) (by go_simp) (HTW.out w4 HBW4.out) ?_
            rintro e w5 ⟨v52, rfl, ho5, hb5⟩
            obtain ⟨a52, c52, rfl, hlc5, hcm5, hr5⟩ := ho5.rd HVB.out
            have HO5 := Lib.hid (ownU_base ho5 HB4.out.size)
            have HB5 := Lib.hid (HB4.out.trans (hb5.mono HB4.out.size))
            have HOW5 := Lib.hid (ownP_below HOW4.out hb5)
            have HFR5 := Lib.hid (HFR4.out.np hb5)
            have HS5 := Lib.hid (show w5.cell? ⟨cb, co + k * 3, none⟩ = some (.string key) ∧ w5.cell? ⟨cb, co + k * 3 + 2, none⟩ = some (.slice ya yn yc) from ⟨(HB5.out.cell (p := ⟨cb, co + k * 3, none⟩) HCB.out).trans HC0.out, (HB5.out.cell (p := ⟨cb, co + k * 3 + 2, none⟩) HCB.out).trans HC2.out⟩)
            clear hlc5 hcm5 hr5 ho5 hb5 HTW HS
            refine ⟨_, rfl, HS5.out, fun _ => ?_⟩
            simp only [Act.put, List.setIfInBounds_toArray, List.set_cons_zero, List.set_cons_succ]
            refine anyH_pureG 12 (d := 53) (op := .build 46 #[(0, (.tmp 46)), (1, (.tmp 52))]) (gd := none) (.agg #[.string key, .slice a52 val.length c52]) (by rfl) (fun o ho => wanted_plain ho _) (by kernel_rfl) (by kernel_rfl) (by kernel_rfl) (fun _ _ _ h => h) (fun o ho W hW => exec_buildT (by simp only [List.map_toArray, List.map_cons, List.map_nil]; exact built_pair key a52 val.length c52) o ho W) HS5.out ?_
            simp only [Act.put, List.setIfInBounds_toArray, List.set_cons_zero, List.set_cons_succ]
            refine anyH_oneT 13 (d1 := some 54) (op1 := .buildSlice 33 1 #[(0, (.tmp 53))]) (by kernel_rfl) (by rfl) (fun o hod hoo => ?_)
            refine wp_layP (.tmp 53) hoo (.string key) (.slice a52 val.length c52) (by rfl) ?_
            have hal5 : Below w5.heap.size w5 (w5.alloc (.cells #[.string key, .slice a52 val.length c52] 46)) := (Below.refl _ _).alloc (Nat.le_refl _) _
            refine ⟨⟨(hal5.cell (p := ⟨cb, co + k * 3, none⟩) (Nat.lt_of_lt_of_le HCB.out HB5.out.size)).trans HS5.out.1, (hal5.cell (p := ⟨cb, co + k * 3 + 2, none⟩) (Nat.lt_of_lt_of_le HCB.out HB5.out.size)).trans HS5.out.2⟩, ?_⟩
            rw [hod]
            simp only [Act.put, List.setIfInBounds_toArray, List.set_cons_zero, List.set_cons_succ]
            refine anyH_oneT 14 (d1 := some 55) (op1 := .call { callee := .builtin .append, args := #[(.tmp 41), (.tmp 54)], argTypes := #[33, 33] }) (by kernel_rfl) (by rfl) (fun o hod hoo => ?_)
            refine wp_pushP (.tmp 41) (.tmp 54) hoo w1.heap.size u7 rs (.string key, .slice a52 val.length c52) rfl rfl (by rfl) HOW5.out HB5.out.size (by rfl) HRL.out ?_
            intro v6 w6 hown6 hg6
            obtain ⟨hfr6, hb6⟩ := push_np (r := (.string key, .slice a52 val.length c52)) (f := (key, val)) HB5.out.size HOW5.out HFR5.out (fc_twin HN1.out HO5.out HVB.out) hg6
            have HB6 := Lib.hid (HB5.out.trans hb6)
            have HOW6 := Lib.hid hown6
            have HFR6 := Lib.hid hfr6
            have HS6 := Lib.hid (show w6.cell? ⟨cb, co + k * 3, none⟩ = some (.string key) ∧ w6.cell? ⟨cb, co + k * 3 + 2, none⟩ = some (.slice ya yn yc) from ⟨(HB6.out.cell (p := ⟨cb, co + k * 3, none⟩) HCB.out).trans HC0.out, (HB6.out.cell (p := ⟨cb, co + k * 3 + 2, none⟩) HCB.out).trans HC2.out⟩)
            clear hown6 hg6 hfr6 hb6 hal5 HO5 HB5 HOW5 HFR5 HS5
            refine ⟨HS6.out, ?_⟩
            rw [hod]
            simp only [Act.put, List.setIfInBounds_toArray, List.set_cons_zero, List.set_cons_succ]
            refine anyH_pureG 15 (d := 7) (op := .assign (.tmp 55)) (gd := none) v6 (by rfl) (fun o ho => wanted_plain ho _) (by kernel_rfl) (by kernel_rfl) (by kernel_rfl) (fun _ _ _ h => h) (fun o ho W hW => by unfold execOp; simp only [ho]; go_simp) HS6.out ?_
            simp only [Act.put, List.setIfInBounds_toArray, List.set_cons_zero, List.set_cons_succ]
            refine wpAnyH_done (by kernel_rfl) ?_ _
            clear HL1 HL2 HS6 HB4 HOW4 HFR4 HBW4
            go_wp2_with fail
            go_loopw [7, 9] (fun v i wq => ∃ j : Nat, at1 ≤ j ∧ j ≤ vn ∧ i = .int .i64 j ∧ (∃ rs, Hid (OwnP wq w1.heap.size v rs) ∧ Hid (FRs (NP N w1.heap.size wq) wq rs (m.take at1 ++ [(key, val)] ++ withoutF ((m.take j).drop at1) key))) ∧ Hid (Below w1.heap.size w1 wq)) (fun _ i _ => vn - (intOf i).toNat)
            case atStart => exact ⟨at1, Nat.le_refl _, HATL.out, rfl, ⟨_, HOW6, by rw [List.drop_of_length_le (by rw [List.length_take]; omega)]; simpa [withoutF] using HFR6⟩, HB6⟩
            case round =>
              clear HOW6 HFR6 HB6
              obtain ⟨j, hja, hjl, rfl, ⟨rs, HOW, HFR⟩, HB3⟩ := hrel
              obtain ⟨w3, rfl⟩ : ∃ w3, w3 = wr := ⟨wr, rfl⟩
              have hvl := HVL.out
              by_cases hjv : j < vn
              · obtain ⟨pb, po, f, ra, rn, rc, rfl, hpb, hf, p0, p1, hrb⟩ := (HRF.out.npw HB3.out).at hjv
                have hix3 := fun W => run_pair_idx W pb po vn vc j hjv
                have HTK := Lib.hid (show (m.take (j + 1)).drop at1 = (m.take j).drop at1 ++ [f] from take_more hf hja)
                have HRB := Lib.hid hrb
                have HP := Lib.hid (And.intro p0 p1)
                have HPB := Lib.hid hpb
                have hsz := HB3.out.size
                have hrl : rs.length + 1 ≤ 1000000000 := by
                  have h1 := HFR.out.ln
                  have h2 := without_len ((m.take j).drop at1) key
                  rw [List.length_append, List.length_append, List.length_take] at h1
                  rw [List.length_drop, List.length_take] at h2
                  have h4 : ([(key, val)] : Fls).length ≤ 1 := by simp
                  have h5 := HVL.out
                  omega
                clear hf hrb hpb p0 p1
                by_cases e : f.1 = key
                · have HW := Lib.hid (show withoutF ((m.take (j + 1)).drop at1) key = withoutF ((m.take j).drop at1) key by rw [HTK.out, without_snoc, if_pos e])
                  have hne : f.1.toList = key.toList := by rw [e]
                  clear e
                  obtain ⟨w4, hw4⟩ : ∃ W, W = World.drew w3 := ⟨_, rfl⟩
                  have hb4 : Below w3.heap.size w3 w4 := by rw [hw4]; exact below_drewN' _ w3 1
                  have HS := Lib.hid (show w4.cell? ⟨cb, co + k * 3, none⟩ = some (.string key) ∧ w4.cell? ⟨pb, po + 2 * j, none⟩ = some (.string f.1) from ⟨(hb4.cell (p := ⟨cb, co + k * 3, none⟩) (Nat.lt_of_lt_of_le HCB.out HB3.out.size)).trans ((HB3.out.cell (p := ⟨cb, co + k * 3, none⟩) HCB.out).trans HC0.out), (hb4.cell (p := ⟨pb, po + 2 * j, none⟩) HPB.out).trans HP.out.1⟩)
                  have HL1 := Lib.hid (fun W (hW : W.cell? ⟨cb, co + k * 3, none⟩ = some (.string key) ∧ W.cell? ⟨pb, po + 2 * j, none⟩ = some (.string f.1)) => run_cell_s W ⟨cb, co + k * 3, none⟩ _ hW.1)
                  have HL3 := Lib.hid (fun W (hW : W.cell? ⟨cb, co + k * 3, none⟩ = some (.string key) ∧ W.cell? ⟨pb, po + 2 * j, none⟩ = some (.string f.1)) => run_cell_s W ⟨pb, po + 2 * j, none⟩ _ hW.2)
                  go_wp2_with fail
                  refine anyH_begin (S := fun W => W.cell? ⟨cb, co + k * 3, none⟩ = some (.string key) ∧ W.cell? ⟨pb, po + 2 * j, none⟩ = some (.string f.1)) (by kernel_rfl) ?_
                  rw [← hw4]
                  clear hw4
                  refine anyH_pureG 0 (d := 63) (op := .move (.tmp 0)) (gd := none) (.slice (some ⟨pb, po, none⟩) vn vc) (by rfl) (fun o ho => wanted_plain ho _) (by kernel_rfl) (by kernel_rfl) (by kernel_rfl) (fun _ _ _ h => h) (fun o ho W hW => by unfold execOp; simp only [ho]; go_simp) HS.out ?_
                  simp only [Act.put, List.setIfInBounds_toArray, List.set_cons_zero, List.set_cons_succ]
                  refine anyH_pureG 1 (d := 64) (op := .move (.tmp 9)) (gd := none) (.int .i64 (j : Int)) (by rfl) (fun o ho => wanted_plain ho _) (by kernel_rfl) (by kernel_rfl) (by kernel_rfl) (fun _ _ _ h => h) (fun o ho W hW => by unfold execOp; simp only [ho]; go_simp) HS.out ?_
                  simp only [Act.put, List.setIfInBounds_toArray, List.set_cons_zero, List.set_cons_succ]
                  refine anyH_pureG 2 (d := 65) (op := .indexAddr 33 (.tmp 63) (.tmp 64)) (gd := none) (.pointer (some ⟨pb, po + 2 * j, none⟩)) (by rfl) (fun o ho => wanted_plain ho _) (by kernel_rfl) (by kernel_rfl) (by kernel_rfl) (fun _ _ _ h => h) (fun o1 ho W hW => exec_pair_idx hjv (x := .tmp 63) (y := .tmp 64) (by rfl) (by rfl) o1 ho W) HS.out ?_
                  simp only [Act.put, List.setIfInBounds_toArray, List.set_cons_zero, List.set_cons_succ]
                  refine anyH_pureG 3 (d := 66) (op := .fieldAddr 46 (.tmp 65) 0) (gd := none) (.pointer (some ⟨pb, po + 2 * j, none⟩)) (by rfl) (fun o ho => wanted_plain ho _) (by kernel_rfl) (by kernel_rfl) (by kernel_rfl) (fun _ _ _ h => h) (fun o ho W hW => by unfold execOp; simp only [ho]; go_simp) HS.out ?_
                  simp only [Act.put, List.setIfInBounds_toArray, List.set_cons_zero, List.set_cons_succ]
                  refine anyH_loadG 4 (d := 67) (ty := 9) (x := (.tmp 66)) (gd := none) (p := .pointer (some ⟨pb, po + 2 * j, none⟩)) (.string f.1) (by rfl) (fun o ho => wanted_plain ho _) (by kernel_rfl) (by kernel_rfl) (by kernel_rfl) (fun _ _ _ h => h) (by rfl) HL3.out HS.out ?_
                  simp only [Act.put, List.setIfInBounds_toArray, List.set_cons_zero, List.set_cons_succ]
                  refine anyH_pureG 5 (d := 68) (op := .move (.tmp 1)) (gd := none) (.slice (some ⟨cb, co, none⟩) cn cc) (by rfl) (fun o ho => wanted_plain ho _) (by kernel_rfl) (by kernel_rfl) (by kernel_rfl) (fun _ _ _ h => h) (fun o ho W hW => by unfold execOp; simp only [ho]; go_simp) HS.out ?_
                  simp only [Act.put, List.setIfInBounds_toArray, List.set_cons_zero, List.set_cons_succ]
                  refine anyH_pureG 6 (d := 69) (op := .move (.tmp 5)) (gd := none) (.int .i64 (k : Int)) (by rfl) (fun o ho => wanted_plain ho _) (by kernel_rfl) (by kernel_rfl) (by kernel_rfl) (fun _ _ _ h => h) (fun o ho W hW => by unfold execOp; simp only [ho]; go_simp) HS.out ?_
                  simp only [Act.put, List.setIfInBounds_toArray, List.set_cons_zero, List.set_cons_succ]
                  refine anyH_pureG 7 (d := 70) (op := .indexAddr 22 (.tmp 68) (.tmp 69)) (gd := none) (.pointer (some ⟨cb, co + k * 3, none⟩)) (by rfl) (fun o ho => wanted_plain ho _) (by kernel_rfl) (by kernel_rfl) (by kernel_rfl) (fun _ _ _ h => h) (fun o1 ho W hW => exec_rchg_idx hkc (x := .tmp 68) (y := .tmp 69) (by rfl) (by rfl) o1 ho W) HS.out ?_
                  simp only [Act.put, List.setIfInBounds_toArray, List.set_cons_zero, List.set_cons_succ]
                  refine anyH_pureG 8 (d := 71) (op := .fieldAddr 67 (.tmp 70) 0) (gd := none) (.pointer (some ⟨cb, co + k * 3, none⟩)) (by rfl) (fun o ho => wanted_plain ho _) (by kernel_rfl) (by kernel_rfl) (by kernel_rfl) (fun _ _ _ h => h) (fun o ho W hW => by unfold execOp; simp only [ho]; go_simp) HS.out ?_
                  simp only [Act.put, List.setIfInBounds_toArray, List.set_cons_zero, List.set_cons_succ]
                  refine anyH_loadG 9 (d := 72) (ty := 9) (x := (.tmp 71)) (gd := none) (p := .pointer (some ⟨cb, co + k * 3, none⟩)) (.string key) (by rfl) (fun o ho => wanted_plain ho _) (by kernel_rfl) (by kernel_rfl) (by kernel_rfl) (fun _ _ _ h => h) (by rfl) HL1.out HS.out ?_
                  simp only [Act.put, List.setIfInBounds_toArray, List.set_cons_zero, List.set_cons_succ]
                  refine anyH_pureG 10 (d := 73) (op := .binOp .neq 9 (.tmp 67) (.tmp 72) 9) (gd := none) (.bool false) (by rfl) (fun o ho => wanted_plain ho _) (by kernel_rfl) (by kernel_rfl) (by kernel_rfl) (fun _ _ _ h => h) (fun o ho W hW => by unfold execOp; simp only [ho]; go_simp; try simp) HS.out ?_
                  simp only [Act.put, List.setIfInBounds_toArray, List.set_cons_zero, List.set_cons_succ]
                  refine wpAnyH_done (by kernel_rfl) ?_ _
                  clear HS HL1 HL3
                  go_wp2_with fail
                  go_roundw
                  case rel => exact ⟨j + 1, by omega, by omega, by go_num, ⟨rs, Lib.hid (ownP_below HOW.out hb4), by rw [HW.out]; exact Lib.hid (HFR.out.np hb4)⟩, Lib.hid (HB3.out.trans (hb4.mono HB3.out.size))⟩
                  case measure => simp [intOf]; omega
                · have HW := Lib.hid (show withoutF ((m.take (j + 1)).drop at1) key = withoutF ((m.take j).drop at1) key ++ [f] by rw [HTK.out, without_snoc, if_neg e])
                  have hne := ba_neq e
                  clear e
                  obtain ⟨w4, hw4⟩ : ∃ W, W = World.drew w3 := ⟨_, rfl⟩
                  have hb4 : Below w3.heap.size w3 w4 := by rw [hw4]; exact below_drewN' _ w3 1
                  have HS := Lib.hid (show w4.cell? ⟨cb, co + k * 3, none⟩ = some (.string key) ∧ w4.cell? ⟨pb, po + 2 * j, none⟩ = some (.string f.1) from ⟨(hb4.cell (p := ⟨cb, co + k * 3, none⟩) (Nat.lt_of_lt_of_le HCB.out HB3.out.size)).trans ((HB3.out.cell (p := ⟨cb, co + k * 3, none⟩) HCB.out).trans HC0.out), (hb4.cell (p := ⟨pb, po + 2 * j, none⟩) HPB.out).trans HP.out.1⟩)
                  have HL1 := Lib.hid (fun W (hW : W.cell? ⟨cb, co + k * 3, none⟩ = some (.string key) ∧ W.cell? ⟨pb, po + 2 * j, none⟩ = some (.string f.1)) => run_cell_s W ⟨cb, co + k * 3, none⟩ _ hW.1)
                  have HL3 := Lib.hid (fun W (hW : W.cell? ⟨cb, co + k * 3, none⟩ = some (.string key) ∧ W.cell? ⟨pb, po + 2 * j, none⟩ = some (.string f.1)) => run_cell_s W ⟨pb, po + 2 * j, none⟩ _ hW.2)
                  go_wp2_with fail
                  refine anyH_begin (S := fun W => W.cell? ⟨cb, co + k * 3, none⟩ = some (.string key) ∧ W.cell? ⟨pb, po + 2 * j, none⟩ = some (.string f.1)) (by kernel_rfl) ?_
                  rw [← hw4]
                  clear hw4
                  refine anyH_pureG 0 (d := 63) (op := .move (.tmp 0)) (gd := none) (.slice (some ⟨pb, po, none⟩) vn vc) (by rfl) (fun o ho => wanted_plain ho _) (by kernel_rfl) (by kernel_rfl) (by kernel_rfl) (fun _ _ _ h => h) (fun o ho W hW => by unfold execOp; simp only [ho]; go_simp) HS.out ?_
                  simp only [Act.put, List.setIfInBounds_toArray, List.set_cons_zero, List.set_cons_succ]
                  refine anyH_pureG 1 (d := 64) (op := .move (.tmp 9)) (gd := none) (.int .i64 (j : Int)) (by rfl) (fun o ho => wanted_plain ho _) (by kernel_rfl) (by kernel_rfl) (by kernel_rfl) (fun _ _ _ h => h) (fun o ho W hW => by unfold execOp; simp only [ho]; go_simp) HS.out ?_
                  simp only [Act.put, List.setIfInBounds_toArray, List.set_cons_zero, List.set_cons_succ]
                  refine anyH_pureG 2 (d := 65) (op := .indexAddr 33 (.tmp 63) (.tmp 64)) (gd := none) (.pointer (some ⟨pb, po + 2 * j, none⟩)) (by rfl) (fun o ho => wanted_plain ho _) (by kernel_rfl) (by kernel_rfl) (by kernel_rfl) (fun _ _ _ h => h) (fun o1 ho W hW => exec_pair_idx hjv (x := .tmp 63) (y := .tmp 64) (by rfl) (by rfl) o1 ho W) HS.out ?_
                  simp only [Act.put, List.setIfInBounds_toArray, List.set_cons_zero, List.set_cons_succ]
                  refine anyH_pureG 3 (d := 66) (op := .fieldAddr 46 (.tmp 65) 0) (gd := none) (.pointer (some ⟨pb, po + 2 * j, none⟩)) (by rfl) (fun o ho => wanted_plain ho _) (by kernel_rfl) (by kernel_rfl) (by kernel_rfl) (fun _ _ _ h => h) (fun o ho W hW => by unfold execOp; simp only [ho]; go_simp) HS.out ?_
                  simp only [Act.put, List.setIfInBounds_toArray, List.set_cons_zero, List.set_cons_succ]
                  refine anyH_loadG 4 (d := 67) (ty := 9) (x := (.tmp 66)) (gd := none) (p := .pointer (some ⟨pb, po + 2 * j, none⟩)) (.string f.1) (by rfl) (fun o ho => wanted_plain ho _) (by kernel_rfl) (by kernel_rfl) (by kernel_rfl) (fun _ _ _ h => h) (by rfl) HL3.out HS.out ?_
                  simp only [Act.put, List.setIfInBounds_toArray, List.set_cons_zero, List.set_cons_succ]
                  refine anyH_pureG 5 (d := 68) (op := .move (.tmp 1)) (gd := none) (.slice (some ⟨cb, co, none⟩) cn cc) (by rfl) (fun o ho => wanted_plain ho _) (by kernel_rfl) (by kernel_rfl) (by kernel_rfl) (fun _ _ _ h => h) (fun o ho W hW => by unfold execOp; simp only [ho]; go_simp) HS.out ?_
                  simp only [Act.put, List.setIfInBounds_toArray, List.set_cons_zero, List.set_cons_succ]
                  refine anyH_pureG 6 (d := 69) (op := .move (.tmp 5)) (gd := none) (.int .i64 (k : Int)) (by rfl) (fun o ho => wanted_plain ho _) (by kernel_rfl) (by kernel_rfl) (by kernel_rfl) (fun _ _ _ h => h) (fun o ho W hW => by unfold execOp; simp only [ho]; go_simp) HS.out ?_
                  simp only [Act.put, List.setIfInBounds_toArray, List.set_cons_zero, List.set_cons_succ]
                  refine anyH_pureG 7 (d := 70) (op := .indexAddr 22 (.tmp 68) (.tmp 69)) (gd := none) (.pointer (some ⟨cb, co + k * 3, none⟩)) (by rfl) (fun o ho => wanted_plain ho _) (by kernel_rfl) (by kernel_rfl) (by kernel_rfl) (fun _ _ _ h => h) (fun o1 ho W hW => exec_rchg_idx hkc (x := .tmp 68) (y := .tmp 69) (by rfl) (by rfl) o1 ho W) HS.out ?_
                  simp only [Act.put, List.setIfInBounds_toArray, List.set_cons_zero, List.set_cons_succ]
                  refine anyH_pureG 8 (d := 71) (op := .fieldAddr 67 (.tmp 70) 0) (gd := none) (.pointer (some ⟨cb, co + k * 3, none⟩)) (by rfl) (fun o ho => wanted_plain ho _) (by kernel_rfl) (by kernel_rfl) (by kernel_rfl) (fun _ _ _ h => h) (fun o ho W hW => by unfold execOp; simp only [ho]; go_simp) HS.out ?_
                  simp only [Act.put, List.setIfInBounds_toArray, List.set_cons_zero, List.set_cons_succ]
                  refine anyH_loadG 9 (d := 72) (ty := 9) (x := (.tmp 71)) (gd := none) (p := .pointer (some ⟨cb, co + k * 3, none⟩)) (.string key) (by rfl) (fun o ho => wanted_plain ho _) (by kernel_rfl) (by kernel_rfl) (by kernel_rfl) (fun _ _ _ h => h) (by rfl) HL1.out HS.out ?_
                  simp only [Act.put, List.setIfInBounds_toArray, List.set_cons_zero, List.set_cons_succ]
                  refine anyH_pureG 10 (d := 73) (op := .binOp .neq 9 (.tmp 67) (.tmp 72) 9) (gd := none) (.bool true) (by rfl) (fun o ho => wanted_plain ho _) (by kernel_rfl) (by kernel_rfl) (by kernel_rfl) (fun _ _ _ h => h) (fun o ho W hW => by unfold execOp; simp only [ho]; go_simp; try simp) HS.out ?_
                  simp only [Act.put, List.setIfInBounds_toArray, List.set_cons_zero, List.set_cons_succ]
                  refine wpAnyH_done (by kernel_rfl) ?_ _
                  clear HS HL1 HL3
                  have HOW4 := Lib.hid (ownP_below HOW.out hb4)
                  have HFR4 := Lib.hid (HFR.out.np hb4)
                  have HB4 := Lib.hid (HB3.out.trans (hb4.mono HB3.out.size))
                  have q0 := (hb4.cell (p := ⟨pb, po + 2 * j, none⟩) HPB.out).trans HP.out.1
                  have q1 := (hb4.cell (p := ⟨pb, po + 2 * j + 1, none⟩) HPB.out).trans HP.out.2
                  have HRB4 := Lib.hid (show FC (NP N w1.heap.size w4) w4 f (.string f.1) (.slice ra rn rc) from FC.np ⟨rfl, _, _, _, rfl, HRB.out⟩ hb4)
                  have hsz4 := HB4.out.size
                  clear HOW HFR hb4 HB3 hne
                  go_wp2_with (at_builtin; (refine wpList_pushP rfl _ _ rfl w1.heap.size u7 rs (.string f.1, .slice ra rn rc) rfl rfl rfl HOW4.out hsz4 rfl hrl ?_); intro v5 w5 hown5 hg5)
                  obtain ⟨hfr5, hb5⟩ := push_np (r := (.string f.1, .slice ra rn rc)) (f := f) hsz4 HOW4.out HFR4.out HRB4.out hg5
                  go_roundw
                  case rel => exact ⟨j + 1, by omega, by omega, by go_num, ⟨_, Lib.hid hown5, by rw [HW.out, ← List.append_assoc]; exact Lib.hid hfr5⟩, Lib.hid (HB4.out.trans hb5)⟩
                  case measure => simp [intOf]; omega
              · have hjn : j = vn := by omega
                have HE := Lib.hid (show m.take at1 ++ [(key, val)] ++ withoutF ((m.take j).drop at1) key = doP m (cgE ⟨key, false, ya, yn, yc, val⟩) from by
                  have e9 : m.take j = m := List.take_of_length_le (by have := HML.out; omega)
                  rw [e9]
                  show _ = m.take (atP m key) ++ (if false = true then [] else [(key, val)]) ++ withoutF (m.drop (atP m key)) key
                  rw [← HAT.out]
                  rfl)
                obtain ⟨xa, xn, xc, rfl⟩ : ∃ xa xn xc, u7 = .slice xa xn xc := by
                  rcases HOW.out.2 with ⟨h1, _⟩ | ⟨g, c, cur, h1, _⟩
                  · exact ⟨_, _, _, h1⟩
                  · exact ⟨_, _, _, h1⟩
                have HRX := Lib.hid (show RF N w3 xa xn (doL l ((L.take (k + 1)).map cgE)) from by
                  rw [HDK.out, ← HE.out]
                  exact (RF.ofP HOW.out (HFR.out.weak fun k hk => .inl hk) HN1.out).1)
                have HBX := Lib.hid (HB.out.trans (HB3.out.mono HB.out.size))
                clear HOW HFR HB3 HE
                go_wp2_with fail
                go_roundw
                case rel => exact ⟨k + 1, by omega, by go_num, ⟨_, _, _, rfl, HRX⟩, HBX⟩
                case measure => simp [intOf]; omega
    · obtain rfl : k = cn := by omega
      have HE := Lib.hid (show L.take k = L from List.take_of_length_le (by have := HCL.out; omega))
      go_wp2_with fail
      go_ret
      have := HRF.out
      rw [HE.out] at this
      exact ⟨_, _, _, rfl, this, HB.out⟩
end Go.Proofs.Ytihbgigledmliaa
