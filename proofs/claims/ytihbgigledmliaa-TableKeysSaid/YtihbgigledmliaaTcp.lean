/-
  The document's tables: the keys that are asked for. What a table holds, by its calls. The document's Same of keys with their values, where they are the same. Whether a table holds just these: the law's own question, where it does. What changes come to, on plain lists. TableKeys, the plain side: the keys that the table tells are the document's, and where a key is found. The law's own changes in memory, as Apply takes them. TableKeys, what its walk wants besides: changes that can be laid down are sound; the empty disk of 2^20 bytes.
-/
import Derived.Test.YtihbgigledmliaaTcd
import Derived.Test.YtihbgigledmliaaTbp
namespace Go.Proofs.Ytihbgigledmliaa
open Go.RowKit
set_option linter.unusedVariables false
theorem beginsT_eq {s h : ByteArray} (hl : h.size ≤ s.size) : ((s.extract 0 h.size).toList == h.toList) = hasP h s := by
  have hh : h.data.toList.length = h.size := rfl
  rw [Lib.toList_data, Lib.toList_data, Lib.extract_data]
  unfold hasP Lib.hasPrefix
  rw [Bool.eq_iff_iff, List.isPrefixOf_iff_prefix, List.prefix_iff_eq_take, beq_iff_eq, hh]
  simp only [List.drop_zero, Nat.sub_zero]
  exact eq_comm
theorem beginsT_no {s h : ByteArray} (hl : ¬ h.size ≤ s.size) : false = hasP h s := by
  have hh : h.data.toList.length = h.size := rfl
  have hs : s.data.toList.length = s.size := rfl
  unfold hasP Lib.hasPrefix
  cases e : h.data.toList.isPrefixOf s.data.toList with
  | false => rfl
  | true =>
    have := (List.isPrefixOf_iff_prefix.1 e).length_le
    omega
set_option maxRecDepth 100000 in
set_option maxHeartbeats 8000000 in
theorem tbegins_c (s h : ByteArray) (w : World) (hs : s.size ≤ maxLen) (hh : h.size ≤ maxLen) : Calls Try.prog 29 #[.string s, .string h] w fun e w' => e = .returned (.bool (hasP h s)) ∧ w' = w := by
  unfold maxLen at hs hh
  by_cases hl : h.size ≤ s.size
  · have i1 : (h.size : Int) ≤ (s.size : Int) := by omega
    go_enter Try.func29, Try.ntmps29
    go_wp2_with fail
    go_ret
    refine ⟨?_, rfl⟩
    exact congrArg (fun x => Ending.returned (.bool x)) (beginsT_eq hl)
  · have i1 : ¬ (h.size : Int) ≤ (s.size : Int) := by omega
    go_enter Try.func29, Try.ntmps29
    go_wp2_with fail
    go_ret
    refine ⟨?_, rfl⟩
    exact congrArg (fun x => Ending.returned (.bool x)) (beginsT_no hl)
/-- the keys that begin so, behind another one, in the list's order -/
def keysP (l : Fls) (head after : ByteArray) : List ByteArray := (l.map (·.1)).filter (kyP head after)
theorem keysP_app (l m : Fls) (head after : ByteArray) : keysP (l ++ m) head after = keysP l head after ++ keysP m head after := by unfold keysP; simp
theorem keysP_len (l : Fls) (head after : ByteArray) : (keysP l head after).length ≤ l.length := by
  unfold keysP
  exact Nat.le_trans (List.length_filter_le _ _) (by simp)
/-- the keys so far -/
def KeS (w : World) (l : Fls) (head after : ByteArray) (most : Int) (k : Nat) (v : Value) (W : World) : Prop :=
  OwnS W w.heap.size v (keysP (l.take k) head after) ∧ Below w.heap.size w W ∧ (((keysP (l.take k) head after).length : Int) ≤ most ∨ keysP (l.take k) head after = [])
set_option maxRecDepth 100000 in
set_option maxHeartbeats 8000000 in
theorem pkeys_c {N : Nat → Prop} {w : World} {a : Option Addr} {len cap : Nat} {l : Fls} (h : RF N w a len l) (head after : ByteArray) (most : Int) (hm : len ≤ 2000000) (hk : ∀ p ∈ l, p.1.size ≤ maxLen) (hh : head.size ≤ maxLen) :
    Calls Try.prog 12 #[.slice a len cap, .string head, .string after, .int .i64 most] w fun e w' => ∃ v, e = .returned v ∧ OwnS w' w.heap.size v ((keysP l head after).take most.toNat) ∧ Below w.heap.size w w' := by
  have HRF := Lib.hid h
  have HK := Lib.hid hk
  have HH := Lib.hid hh
  have HLN := Lib.hid h.ln
  clear h hk hh
  go_enter Try.func12, Try.ntmps12
  go_wp2_with fail
  go_loopw [9, 10] (fun v i wr => ∃ k : Nat, k ≤ len ∧ i = .int .i64 k ∧ Hid (KeS w l head after most k v wr)) (fun _ i _ => len - (intOf i).toNat)
  case atStart => exact ⟨0, Nat.zero_le _, rfl, Lib.hid ⟨World.ownsRow_nil _ _ _ _, Below.refl _ _, .inr rfl⟩⟩
  case round =>
    obtain ⟨k, hk, rfl, HS⟩ := hrel
    obtain ⟨cs, hcs⟩ : ∃ cs, cs = keysP (l.take k) head after := ⟨_, rfl⟩
    have HCS := Lib.hid hcs
    have hcl : cs.length ≤ 2000000 := by
      have h1 := keysP_len (l.take k) head after
      rw [List.length_take] at h1
      rw [hcs]; omega
    have HOW := Lib.hid (show OwnS wr w.heap.size u9 cs from by rw [hcs]; exact HS.out.1)
    have HB := Lib.hid HS.out.2.1
    have HMO := Lib.hid (show (cs.length : Int) ≤ most ∨ cs = [] from by rw [hcs]; exact HS.out.2.2)
    clear hcs HS
    obtain ⟨xa, xc, rfl⟩ : ∃ xa xc, u9 = .slice xa cs.length xc := by
      rcases HOW.out.2 with ⟨h1, h2⟩ | ⟨g, c, cur, h1, _⟩
      · exact ⟨_, _, by rw [h2]; exact h1⟩
      · exact ⟨_, _, h1⟩
    obtain ⟨q, hq⟩ : ∃ q, q = cs.length := ⟨_, rfl⟩
    have HQ := Lib.hid hq
    rw [← hq] at hcl HMO HOW ⊢
    clear hq
    by_cases hkl : k < len
    · by_cases hqm : (q : Int) < most
      · obtain ⟨b, off, f, ra, rn, rc, rfl, hb, hf, c0, c1, hrb⟩ := (HRF.out.below HB.out).at hkl
        have hix := fun W => run_pair_idx W b off len cap k hkl
        have hmem : f ∈ l := List.mem_of_getElem? hf
        have HTK := Lib.hid (show keysP (l.take (k + 1)) head after = cs ++ (if kyP head after f.1 then [f.1] else []) from by
          rw [List.take_add_one, hf, show (some f).toList = [f] from rfl, keysP_app, ← HCS.out]
          congr 1
          unfold keysP
          simp only [List.map_cons, List.map_nil, List.filter_cons, List.filter_nil])
        have HBG := Lib.hid (tbegins_c f.1 head wr (HK.out f hmem) HH.out)
        have hsz := HB.out.size
        clear hf hmem hrb c1
        cases hhp : hasP head f.1 with
        | false =>
          rw [hhp] at HBG
          have HE := Lib.hid (show keysP (l.take (k + 1)) head after = cs from by rw [HTK.out]; unfold kyP; rw [hhp]; simp)
          clear hhp
          go_wp2_with fail
          refine (HBG.out).mono ?_
          rintro e2 w2 ⟨rfl, hw2⟩
          subst w2
          go_wp2_with fail
          go_roundw
          case rel => exact ⟨k + 1, by omega, by go_num, Lib.hid ⟨by rw [HE.out]; exact HOW.out, HB.out, by rw [HE.out, ← HQ.out]; exact HMO.out⟩⟩
          case measure => simp [intOf]; omega
        | true =>
          rw [hhp] at HBG
          cases hgx : gtB f.1 after with
          | false =>
            have HE := Lib.hid (show keysP (l.take (k + 1)) head after = cs from by rw [HTK.out]; unfold kyP; rw [hgx]; simp)
            cases hbl : Op.bytesLess f.1.toList after.toList with
            | true =>
              clear hhp hgx
              go_wp2_with fail
              refine (HBG.out).mono ?_
              rintro e2 w2 ⟨rfl, hw2⟩
              subst w2
              go_wp2_with fail
              go_roundw
              case rel => exact ⟨k + 1, by omega, by go_num, Lib.hid ⟨by rw [HE.out]; exact HOW.out, HB.out, by rw [HE.out, ← HQ.out]; exact HMO.out⟩⟩
              case measure => simp [intOf]; omega
            | false =>
              have heq : f.1.toList = after.toList := by
                unfold gtB at hgx
                rw [hbl] at hgx
                simpa using hgx
              have heq2 : (f.1.toList == after.toList) = true := by rw [heq]; simp
              clear hhp hgx
              go_wp2_with fail
              refine (HBG.out).mono ?_
              rintro e2 w2 ⟨rfl, hw2⟩
              subst w2
              go_wp2_with fail
              go_roundw
              case rel => exact ⟨k + 1, by omega, by go_num, Lib.hid ⟨by rw [HE.out]; exact HOW.out, HB.out, by rw [HE.out, ← HQ.out]; exact HMO.out⟩⟩
              case measure => simp [intOf]; omega
          | true =>
            have HE := Lib.hid (show keysP (l.take (k + 1)) head after = cs ++ [f.1] from by rw [HTK.out]; unfold kyP; rw [hgx, hhp]; simp)
            have hn1 : Op.bytesLess f.1.toList after.toList = false := by
              unfold gtB at hgx
              cases hb : Op.bytesLess f.1.toList after.toList with
              | false => rfl
              | true => rw [hb] at hgx; simp at hgx
            have hn2 : ¬f.1.toList = after.toList := fun g => by
              unfold gtB at hgx
              rw [g] at hgx
              simp at hgx
            have hn3 : (f.1.toList == after.toList) = false := by simp [hn2]
            have hn : Op.bytesLess f.1.toList after.toList = false ∧ ¬f.1.toList = after.toList := ⟨hn1, hn2⟩
            have hlen : cs.length + 1 ≤ 1000000000 := by rw [← HQ.out]; omega
            clear hhp hgx
            go_wp2_with fail
            refine (HBG.out).mono ?_
            rintro e2 w2 ⟨rfl, hw2⟩
            subst w2
            go_wp2_with (at_builtin; (refine wpList_pushS rfl _ _ rfl w.heap.size (.slice xa q xc) cs f.1 rfl HOW.out hsz rfl hlen ?_); intro v5 w5 hown5 hg5)
            have HB5 := Lib.hid (show Below w.heap.size w w5 from (HB.out.alloc hsz _).grown hg5 (by simp; omega) fun k hk => (World.ownsRow.lt HOW.out k hk).1)
            have HO5 := Lib.hid hown5
            have HM5 := Lib.hid (show ((cs ++ [f.1]).length : Int) ≤ most from by rw [List.length_append, ← HQ.out]; simp; omega)
            clear hown5 hg5 hn1 hn2 hn3 hn
            go_roundw
            case rel => exact ⟨k + 1, by omega, by go_num, Lib.hid ⟨by rw [HE.out]; exact HO5.out, HB5.out, by rw [HE.out]; exact .inl HM5.out⟩⟩
            case measure => simp [intOf]; omega
      · have HE := Lib.hid (show (keysP l head after).take most.toNat = cs from by
          have e : keysP l head after = cs ++ keysP (l.drop k) head after := by
            rw [HCS.out, ← keysP_app, List.take_append_drop]
          have e2 : most.toNat = cs.length := by
            rcases HMO.out with h1 | h1
            · have := HQ.out; omega
            · have h2 := HQ.out
              rw [h1] at h2 ⊢
              simp at h2 ⊢
              omega
          rw [e, e2]
          simp)
        go_wp2_with fail
        go_ret
        exact ⟨_, rfl, by rw [HE.out]; exact HOW.out, HB.out⟩
    · have HE := Lib.hid (show (keysP l head after).take most.toNat = cs from by
        have e : l.take k = l := List.take_of_length_le (by have := HLN.out; omega)
        rw [e] at HCS
        rw [← HCS.out]
        refine List.take_of_length_le ?_
        rcases HMO.out with h1 | h1
        · have := HQ.out; omega
        · rw [h1]; simp)
      go_wp2_with fail
      go_ret
      exact ⟨_, rfl, by rw [HE.out]; exact HOW.out, HB.out⟩
end Go.Proofs.Ytihbgigledmliaa
namespace Go.Proofs.Ytihbgigledmliaa
open Go.RowKit
set_option linter.unusedVariables false
theorem run_sidxT (W : World) (b o len cap i : Nat) (hi : i < len) : (Instr.indexAt 38 (.slice (some ⟨b, o, none⟩) len cap) (.int .i64 (i : Int))).run Try.prog W = .ok (.pointer (some ⟨b, o + i, none⟩)) W := by
  rw [run_indexAt_slice W 38 ⟨b, o, none⟩ len cap .i64 (i : Int) (by kernel_rfl)]
  have h1 : (0 : Int) ≤ (i : Int) ∧ (i : Int) < (len : Int) := by omega
  rw [if_pos h1, show (Go.sizeOf (Try.prog.elem 38)).run Try.prog W = .ok 1 W from by kernel_rfl]
  simp [Result.andThen, Addr.add]
theorem OwnS.cellT {w : World} {B n c : Nat} {a : Option Addr} {cs : List ByteArray} (h : OwnS w B (.slice a n c) cs) (hn : n = cs.length) {i : Nat} {s : ByteArray} (hs : cs[i]? = some s) : ∃ g, a = some ⟨g, 0, none⟩ ∧ g < w.heap.size ∧ w.cell? ⟨g, i, none⟩ = some (.string s) := by
  have hi := (List.getElem?_eq_some_iff.1 hs).1
  rcases h.2 with ⟨h1, h2⟩ | ⟨g, c', cur, h1, h2, h3, h4, h5, h6, h7⟩
  · omega
  · obtain ⟨e1, e2, e3⟩ := Value.slice.inj h1
    subst e1
    refine ⟨g, rfl, (Array.getElem?_eq_some_iff.1 h3).1, ?_⟩
    rw [cell_of_row w g i cur _ _ h3, ← Array.getElem?_toList]
    have h8 := congrArg (fun l => l[i]?) h7
    simp only [List.getElem?_map, hs, Option.map_some, List.getElem?_take] at h8
    rw [if_pos (by omega)] at h8
    exact h8
/-- keys with their values -/
def prs (cs : List ByteArray) (f : ByteArray → Option (List Nat)) : Fls := cs.map fun s => (s, (f s).getD [])
theorem lookF_prs {f : ByteArray → Option (List Nat)} : ∀ {cs : List ByteArray} {s : ByteArray}, (s ∈ cs ↔ (f s).isSome = true) → lookF (prs cs f) s = f s
  | cs, s, h => by
    by_cases hs : (f s).isSome = true
    · have key : ∀ l : List ByteArray, s ∈ l → lookF (prs l f) s = f s := fun l => by
        induction l with
        | nil => intro h; cases h
        | cons x l ih =>
          intro hm
          unfold prs at ih ⊢
          rw [List.map_cons]
          unfold lookF
          by_cases e : x = s
          · subst e
            rw [if_pos rfl]
            obtain ⟨z, hz⟩ := Option.isSome_iff_exists.1 hs
            rw [hz]; rfl
          · rw [if_neg e]
            refine ih ?_
            rcases List.mem_cons.1 hm with h1 | h1
            · exact absurd h1.symm e
            · exact h1
      exact key cs (h.2 hs)
    · rw [lookF_none_of fun x hx e => ?_]
      · cases hf : f s with
        | none => rfl
        | some z => rw [hf] at hs; exact absurd rfl hs
      · unfold prs at hx
        obtain ⟨y, hy, rfl⟩ := List.mem_map.1 hx
        exact hs (h.1 (by rw [← e]; exact hy))
theorem srt_prs {f : ByteArray → Option (List Nat)} {cs : List ByteArray} (h1 : cs.Pairwise fun a b => a.data.toList ≤ b.data.toList) (h2 : cs.Nodup) : Srt (prs cs f) := by
  unfold Srt prs
  rw [List.pairwise_map]
  refine (h1.and h2).imp fun {a b} h => ?_
  show ltB a b
  by_cases hl : ltB a b
  · exact hl
  · exact absurd (ba_ext (List.le_antisymm h.1 (List.not_lt.1 hl))) h.2
/-- the pairs so far -/
def PaS (w2 : World) (w : World) (cs : List ByteArray) (f : ByteArray → Option (List Nat)) (k : Nat) (v : Value) (W : World) : Prop :=
  (∃ rs, OwnP W w2.heap.size v rs ∧ FRs (NP (fun _ => False) w2.heap.size W) W rs (prs (cs.take k) f)) ∧ Below w2.heap.size w2 W ∧ Below w.heap.size w W
theorem prs_step {f : ByteArray → Option (List Nat)} {cs : List ByteArray} {k : Nat} {s : ByteArray} (h : cs[k]? = some s) : prs (cs.take (k + 1)) f = prs (cs.take k) f ++ [(s, (f s).getD [])] := by
  rw [List.take_add_one, h]
  unfold prs
  simp
set_option maxRecDepth 100000 in
set_option maxHeartbeats 8000000 in
theorem tpairs_c {B m n tb : Nat} {V : Nat → Prop} {D : DU} {f : ByteArray → Option (List Nat)} {jv : Value} {dn : Bool} {w : World} (h : TM B V w m n D f) (ht : TRow w tb jv m dn) (hz : Maps.size D ≤ 100000) (hns : ∀ s, (f s).isSome = true → s.size ≤ 400 ∧ kyP ⟨#[]⟩ ⟨#[]⟩ s = true) (hv : ∀ s, ((f s).getD []).length ≤ 140737488351232 ∧ ∀ z ∈ (f s).getD [], z < 256) :
    Calls Try.prog 31 #[.pointer (some ⟨tb, 0, none⟩)] w fun e w' => ∃ L a len cap, Srt L ∧ (∀ s, lookF L s = f s) ∧ e = .returned (.tuple #[.slice a len cap, .bool true]) ∧ RF (fun _ => False) w' a len L ∧ Below w.heap.size w w' := by
  have HTM := Lib.hid h
  have HTR := Lib.hid ht
  have HNS := Lib.hid hns
  have HV := Lib.hid hv
  have HLE := Lib.hid (tlen_c h ht)
  have HKE := Lib.hid (fun most => tkeys_c h ht ⟨#[]⟩ ⟨#[]⟩ most hz fun s hs => (hns s hs).1)
  have HTB := Lib.hid (Array.getElem?_eq_some_iff.1 ht).1
  have HKS := Lib.hid h.ks
  have HSZ := Lib.hid hz
  clear h ht hns hv hz
  go_enter Try.func31, Try.ntmps31
  go_wp2_with fail
  refine (HLE.out).mono ?_
  rintro e1 w1 ⟨⟨ll, l1, l2, rfl⟩, hw1⟩
  subst w1
  have HL1 := Lib.hid l1
  have HL2 := Lib.hid l2
  clear l1 l2 HLE
  go_wp2_with fail
  refine (HKE.out _).mono ?_
  rintro e2 w2 ⟨cs, a, c, hnd, hmem, hsrt, rfl, hown, hb2⟩
  have HMM := Lib.hid (show ∀ s, s ∈ cs ↔ (f s).isSome = true from fun s => ⟨fun hs => ((hmem s).1 hs).1, fun hs => (hmem s).2 ⟨hs, (HNS.out s hs).2⟩⟩)
  have HLL := Lib.hid (show ll.length = cs.length from ((List.perm_ext_iff_of_nodup HL1.out hnd).2 fun s => by rw [HL2.out, HMM.out]).length_eq)
  have hmin : (min (max (ll.length : Int) 0) (cs.length : Nat)).toNat = cs.length := by rw [HLL.out]; omega
  rw [hmin]
  have HSR := Lib.hid (srt_prs (f := f) hsrt hnd)
  have HCO := Lib.hid hown
  have HND := Lib.hid hnd
  have HB2 := Lib.hid hb2
  obtain ⟨q, hq⟩ : ∃ q, q = cs.length := ⟨_, rfl⟩
  have HQ := Lib.hid hq
  have hqm : q ≤ 100000 := by
    obtain ⟨l0, k1, k2, k3⟩ := HKS.out
    have h1 := ((List.perm_ext_iff_of_nodup k1 hnd).2 fun s => by rw [k2, HMM.out]).length_eq
    have h2 := HSZ.out
    omega
  rw [← hq] at HCO ⊢
  clear hq hmin hnd hmem hsrt hown hb2 HL1 HL2 HKE HKS
  go_wp2_with fail
  go_loopw [4, 16] (fun v i wr => ∃ k : Nat, k ≤ q ∧ i = .int .i64 k ∧ Hid (PaS w2 w cs f k v wr)) (fun _ i _ => q - (intOf i).toNat)
  case atStart => exact ⟨0, Nat.zero_le _, rfl, Lib.hid ⟨⟨[], World.ownsRow_nil _ _ _ _, FRs.nil _ _⟩, Below.refl _ _, HB2.out⟩⟩
  case round =>
    obtain ⟨k, hk, rfl, HS⟩ := hrel
    obtain ⟨w3, rfl⟩ : ∃ w3, w3 = wr := ⟨wr, rfl⟩
    obtain ⟨rs, hrs⟩ := HS.out.1
    have HOW := Lib.hid hrs.1
    have HFR := Lib.hid hrs.2
    have HB3 := Lib.hid HS.out.2.1
    have HB := Lib.hid HS.out.2.2
    have hrl : rs.length = k := by
      have h1 := hrs.2.ln
      unfold prs at h1
      rw [List.length_map, List.length_take] at h1
      have := HQ.out
      omega
    have HRL := Lib.hid hrl
    clear hrs hrl HS
    by_cases hkq : k < q
    · obtain ⟨s, hs⟩ : ∃ s, cs[k]? = some s := ⟨_, List.getElem?_eq_getElem (by rw [← HQ.out]; exact hkq)⟩
      obtain ⟨g, rfl, hg, hc⟩ := OwnS.cellT HCO.out HQ.out hs
      have c0 := (HB3.out.cell (p := ⟨g, k, none⟩) hg).trans hc
      have kI := fun W => run_sidxT W g 0 q c k hkq
      simp only [Nat.zero_add] at kI
      have HST := Lib.hid (show prs (cs.take (k + 1)) f = prs (cs.take k) f ++ [(s, (f s).getD [])] from prs_step hs)
      have HSS := Lib.hid ((HMM.out s).1 (List.mem_of_getElem? hs))
      have HGE := Lib.hid (fun W (hW : Below w.heap.size w W) => tget_c (HTM.out.below hW) (show TRow W tb jv m dn from (hW.block tb HTB.out).trans HTR.out) s (Nat.le_trans (HNS.out s HSS.out).1 (by unfold maxLen; omega)) (HV.out s).1)
      obtain ⟨z, hz⟩ : ∃ z, z = (f s).getD [] := ⟨_, rfl⟩
      rw [← hz] at HGE HST
      have HZ := Lib.hid (show ∀ y ∈ z, y < 256 from by rw [hz]; exact (HV.out s).2)
      rw [HSS.out] at HGE
      clear hz hs hc hg
      go_wp2_with fail
      refine (HGE.out w3 HB.out).mono ?_
      rintro e4 w4 ⟨v4, rfl, ho4, hb4⟩
      obtain ⟨a4, c4, rfl, k1, k2, k3⟩ := ho4.rd HZ.out
      have HB34 := Lib.hid (HB3.out.trans (hb4.mono HB3.out.size))
      have HBX := Lib.hid (HB.out.trans (hb4.mono HB.out.size))
      have HOW4 := Lib.hid (ownP_below HOW.out hb4)
      have HFR4 := Lib.hid (HFR.out.np hb4)
      have HFC := Lib.hid (show FC (NP (fun _ => False) w2.heap.size w4) w4 (s, z) (.string s) (.slice a4 z.length c4) from fc_twin (fun k hk => hk.elim) (ownU_base ho4 HB3.out.size) HZ.out)
      have hsz := HB34.out.size
      have hlen : rs.length + 1 ≤ 1000000000 := by have := HRL.out; omega
      have hszw := HBX.out.size
      clear k1 k2 k3 ho4 hb4 c0 kI HGE HOW HFR HB3 HB
      go_wp2_with (at_builtin; (refine wpList_pushP rfl _ _ rfl w2.heap.size u4 rs (.string s, .slice a4 z.length c4) rfl rfl rfl HOW4.out hsz rfl hlen ?_); intro v5 w5 hown5 hg5)
      obtain ⟨hfr5, hb5⟩ := push_np (r := (.string s, .slice a4 z.length c4)) (f := (s, z)) hsz HOW4.out HFR4.out HFC.out hg5
      have HP5 := Lib.hid (show PaS w2 w cs f (k + 1) v5 w5 from ⟨⟨_, hown5, by rw [HST.out]; exact hfr5⟩, HB34.out.trans hb5, HBX.out.trans (hb5.mono HB2.out.size)⟩)
      clear hown5 hg5 hfr5 hb5
      go_roundw
      case rel => exact ⟨k + 1, by omega, by go_num, HP5⟩
      case measure => simp [intOf]; omega
    · have hkn : k = q := by omega
      have HE := Lib.hid (show cs.take k = cs from List.take_of_length_le (by rw [hkn, HQ.out]; exact Nat.le_refl _))
      obtain ⟨xa, xc, rfl⟩ : ∃ xa xc, u4 = .slice xa q xc := by
        have h5 := HRL.out
        rcases HOW.out.2 with ⟨h1, h2⟩ | ⟨g, c, cur, h1, _⟩
        · exact ⟨_, _, by rw [← hkn, ← h5, h2]; exact h1⟩
        · exact ⟨_, _, by rw [← hkn, ← h5]; exact h1⟩
      have HRX := Lib.hid (show RF (fun _ => False) w3 xa q (prs cs f) from by
        have h7 := HFR.out
        rw [HE.out] at h7
        exact (RF.ofP HOW.out (h7.weak fun k hk => .inl hk) (fun k hk => hk.elim)).1)
      have HLN := Lib.hid (tlen_c (HTM.out.below HB.out) (show TRow w3 tb jv m dn from (HB.out.block tb HTB.out).trans HTR.out))
      clear HOW HFR HE HB3
      go_wp2_with fail
      refine (HLN.out).mono ?_
      rintro e6 w6 ⟨⟨l6, m1, m2, rfl⟩, hw6⟩
      subst w6
      have hl6 : l6.length = q := by
        rw [HQ.out]
        exact ((List.perm_ext_iff_of_nodup m1 HND.out).2 fun s => by rw [m2, HMM.out]).length_eq
      rw [hl6]
      clear m1 m2 hl6 HLN
      go_wp2_with fail
      go_ret2
      exact ⟨prs cs f, xa, q, xc, HSR.out, fun s => lookF_prs (HMM.out s), rfl, HRX.out, HB.out⟩
end Go.Proofs.Ytihbgigledmliaa
namespace Go.Proofs.Ytihbgigledmliaa
open Go.RowKit
set_option linter.unusedVariables false
/-- two pairs that are the same, in memory -/
structure SmP (pb po qb qo k : Nat) (f : ByteArray × List Nat) (ra : Option Addr) (rn rc : Nat) (sa : Option Addr) (sn sc : Nat) (W : World) : Prop where
  c0 : W.cell? ⟨pb, po + 2 * k, none⟩ = some (.string f.1)
  c1 : W.cell? ⟨pb, po + 2 * k + 1, none⟩ = some (.slice ra rn rc)
  d0 : W.cell? ⟨qb, qo + 2 * k, none⟩ = some (.string f.1)
  d1 : W.cell? ⟨qb, qo + 2 * k + 1, none⟩ = some (.slice sa sn sc)
  pl : pb < W.heap.size
  ql : qb < W.heap.size
theorem SmP.step {pb po qb qo k : Nat} {f : ByteArray × List Nat} {ra : Option Addr} {rn rc : Nat} {sa : Option Addr} {sn sc : Nat} {W W' : World} (h : SmP pb po qb qo k f ra rn rc sa sn sc W) (hb : Below W.heap.size W W') : SmP pb po qb qo k f ra rn rc sa sn sc W' :=
  ⟨(hb.cell (p := ⟨pb, po + 2 * k, none⟩) h.pl).trans h.c0, (hb.cell (p := ⟨pb, po + 2 * k + 1, none⟩) h.pl).trans h.c1, (hb.cell (p := ⟨qb, qo + 2 * k, none⟩) h.ql).trans h.d0, (hb.cell (p := ⟨qb, qo + 2 * k + 1, none⟩) h.ql).trans h.d1, Nat.lt_of_lt_of_le h.pl hb.size, Nat.lt_of_lt_of_le h.ql hb.size⟩
theorem run_cell_slT (W : World) (p : Addr) (a : Option Addr) (n c : Nat) (h : W.cell? p = some (.slice a n c)) : (Instr.loadAt 41 (.pointer (some p))).run Try.prog W = .ok (.slice a n c) W := by go_simp
set_option maxRecDepth 100000 in
set_option maxHeartbeats 8000000 in
theorem psame_c {N1 N2 : Nat → Prop} {w : World} {a1 a2 : Option Addr} {n c1 c2 : Nat} {l : Fls} (h1 : RF N1 w a1 n l) (h2 : RF N2 w a2 n l) (hm : n ≤ 1000000000) (hv : ∀ p ∈ l, p.2.length ≤ 9223372036854775807) :
    Calls Try.prog 32 #[.slice a1 n c1, .slice a2 n c2] w fun e w' => e = .returned (.bool true) ∧ Below w.heap.size w w' := by
  have H1 := Lib.hid h1
  have H2 := Lib.hid h2
  have HV := Lib.hid hv
  clear h1 h2 hv
  go_enter Try.func32, Try.ntmps32
  go_wp2_with fail
  go_loopw [5] (fun i wr => ∃ k : Nat, k ≤ n ∧ i = .int .i64 k ∧ Hid (Below w.heap.size w wr)) (fun i _ => n - (intOf i).toNat)
  case atStart => exact ⟨0, Nat.zero_le _, rfl, Lib.hid (Below.refl _ _)⟩
  case round =>
    obtain ⟨k, hk, rfl, HB⟩ := hrel
    obtain ⟨w3, rfl⟩ : ∃ w3, w3 = wr := ⟨wr, rfl⟩
    by_cases hkn : k < n
    · obtain ⟨pb, po, f, ra, rn, rc, rfl, hpb, hf, p0, p1, hrb⟩ := (H1.out.below HB.out).at hkn
      obtain ⟨qb, qo, f2, sa, sn, sc, rfl, hqb, hf2, q0, q1, hrb2⟩ := (H2.out.below HB.out).at hkn
      rw [hf] at hf2
      cases hf2
      obtain ⟨w4, hw4⟩ : ∃ W, W = World.drew w3 := ⟨_, rfl⟩
      have hb4 : Below w3.heap.size w3 w4 := by rw [hw4]; exact below_drewN' _ w3 1
      have HS := Lib.hid (SmP.step ⟨p0, p1, q0, q1, hpb, hqb⟩ hb4)
      have HL1 := Lib.hid (fun W (hW : SmP pb po qb qo k f ra rn rc sa sn sc W) => run_cell_s W ⟨pb, po + 2 * k, none⟩ _ hW.c0)
      have HL2 := Lib.hid (fun W (hW : SmP pb po qb qo k f ra rn rc sa sn sc W) => run_cell_s W ⟨qb, qo + 2 * k, none⟩ _ hW.d0)
      have HL3 := Lib.hid (fun W (hW : SmP pb po qb qo k f ra rn rc sa sn sc W) => run_cell_slT W ⟨pb, po + 2 * k + 1, none⟩ _ _ _ hW.c1)
      have HL4 := Lib.hid (fun W (hW : SmP pb po qb qo k f ra rn rc sa sn sc W) => run_cell_slT W ⟨qb, qo + 2 * k + 1, none⟩ _ _ _ hW.d1)
      have hln : rn = sn := by rw [← hrb.rd.1, ← hrb2.rd.1]
      subst hln
      have HSM := Lib.hid (show Calls Try.prog 15 #[.slice ra rn rc, .slice sa rn sc] w4 (RetD (.bool true) w4) from by
        have := same_c ra sa rn rc rn sc f.2 f.2 w4 (hrb.rd.below hb4) (hrb2.rd.below hb4) (by rw [← hrb.rd.1]; exact HV.out f (List.mem_of_getElem? hf))
        simpa using this)
      have HB4 := Lib.hid (HB.out.trans (hb4.mono HB.out.size))
      clear hf hpb hqb p0 p1 q0 q1 hrb hrb2 hb4 HB
      go_wp2_with fail
      refine anyH_begin (S := SmP pb po qb qo k f ra rn rc sa rn sc) (by kernel_rfl) ?_
      rw [← hw4]
      clear hw4
      refine anyH_pureG 0 (d := 17) (op := .move (.tmp 0)) (gd := none) (.slice (some ⟨pb, po, none⟩) n c1) (by rfl) (fun o ho => wanted_plain ho _) (by kernel_rfl) (by kernel_rfl) (by kernel_rfl) (fun _ _ _ h => h) (fun o ho W hW => by unfold execOp; simp only [ho]; go_simp) HS.out ?_
      simp only [Act.put, List.setIfInBounds_toArray, List.set_cons_zero, List.set_cons_succ]
      refine anyH_pureG 1 (d := 18) (op := .move (.tmp 5)) (gd := none) (.int .i64 (k : Int)) (by rfl) (fun o ho => wanted_plain ho _) (by kernel_rfl) (by kernel_rfl) (by kernel_rfl) (fun _ _ _ h => h) (fun o ho W hW => by unfold execOp; simp only [ho]; go_simp) HS.out ?_
      simp only [Act.put, List.setIfInBounds_toArray, List.set_cons_zero, List.set_cons_succ]
      refine anyH_pureG 2 (d := 19) (op := .indexAddr 33 (.tmp 17) (.tmp 18)) (gd := none) (.pointer (some ⟨pb, po + 2 * k, none⟩)) (by rfl) (fun o ho => wanted_plain ho _) (by kernel_rfl) (by kernel_rfl) (by kernel_rfl) (fun _ _ _ h => h) (fun o1 ho W hW => exec_pair_idx hkn (x := .tmp 17) (y := .tmp 18) (by rfl) (by rfl) o1 ho W) HS.out ?_
      simp only [Act.put, List.setIfInBounds_toArray, List.set_cons_zero, List.set_cons_succ]
      refine anyH_pureG 3 (d := 20) (op := .fieldAddr 46 (.tmp 19) 0) (gd := none) (.pointer (some ⟨pb, po + 2 * k, none⟩)) (by rfl) (fun o ho => wanted_plain ho _) (by kernel_rfl) (by kernel_rfl) (by kernel_rfl) (fun _ _ _ h => h) (fun o ho W hW => by unfold execOp; simp only [ho]; go_simp) HS.out ?_
      simp only [Act.put, List.setIfInBounds_toArray, List.set_cons_zero, List.set_cons_succ]
      refine anyH_loadG 4 (d := 21) (ty := 9) (x := (.tmp 20)) (gd := none) (p := .pointer (some ⟨pb, po + 2 * k, none⟩)) (.string f.1) (by rfl) (fun o ho => wanted_plain ho _) (by kernel_rfl) (by kernel_rfl) (by kernel_rfl) (fun _ _ _ h => h) (by rfl) HL1.out HS.out ?_
      simp only [Act.put, List.setIfInBounds_toArray, List.set_cons_zero, List.set_cons_succ]
      refine anyH_pureG 5 (d := 22) (op := .move (.tmp 1)) (gd := none) (.slice (some ⟨qb, qo, none⟩) n c2) (by rfl) (fun o ho => wanted_plain ho _) (by kernel_rfl) (by kernel_rfl) (by kernel_rfl) (fun _ _ _ h => h) (fun o ho W hW => by unfold execOp; simp only [ho]; go_simp) HS.out ?_
      simp only [Act.put, List.setIfInBounds_toArray, List.set_cons_zero, List.set_cons_succ]
      refine anyH_pureG 6 (d := 23) (op := .move (.tmp 5)) (gd := none) (.int .i64 (k : Int)) (by rfl) (fun o ho => wanted_plain ho _) (by kernel_rfl) (by kernel_rfl) (by kernel_rfl) (fun _ _ _ h => h) (fun o ho W hW => by unfold execOp; simp only [ho]; go_simp) HS.out ?_
      simp only [Act.put, List.setIfInBounds_toArray, List.set_cons_zero, List.set_cons_succ]
      refine anyH_pureG 7 (d := 24) (op := .indexAddr 33 (.tmp 22) (.tmp 23)) (gd := none) (.pointer (some ⟨qb, qo + 2 * k, none⟩)) (by rfl) (fun o ho => wanted_plain ho _) (by kernel_rfl) (by kernel_rfl) (by kernel_rfl) (fun _ _ _ h => h) (fun o1 ho W hW => exec_pair_idx hkn (x := .tmp 22) (y := .tmp 23) (by rfl) (by rfl) o1 ho W) HS.out ?_
      simp only [Act.put, List.setIfInBounds_toArray, List.set_cons_zero, List.set_cons_succ]
      refine anyH_pureG 8 (d := 25) (op := .fieldAddr 46 (.tmp 24) 0) (gd := none) (.pointer (some ⟨qb, qo + 2 * k, none⟩)) (by rfl) (fun o ho => wanted_plain ho _) (by kernel_rfl) (by kernel_rfl) (by kernel_rfl) (fun _ _ _ h => h) (fun o ho W hW => by unfold execOp; simp only [ho]; go_simp) HS.out ?_
      simp only [Act.put, List.setIfInBounds_toArray, List.set_cons_zero, List.set_cons_succ]
      refine anyH_loadG 9 (d := 26) (ty := 9) (x := (.tmp 25)) (gd := none) (p := .pointer (some ⟨qb, qo + 2 * k, none⟩)) (.string f.1) (by rfl) (fun o ho => wanted_plain ho _) (by kernel_rfl) (by kernel_rfl) (by kernel_rfl) (fun _ _ _ h => h) (by rfl) HL2.out HS.out ?_
      simp only [Act.put, List.setIfInBounds_toArray, List.set_cons_zero, List.set_cons_succ]
      refine anyH_pureG 10 (d := 27) (op := .binOp .neq 9 (.tmp 21) (.tmp 26) 9) (gd := none) (.bool false) (by rfl) (fun o ho => wanted_plain ho _) (by kernel_rfl) (by kernel_rfl) (by kernel_rfl) (fun _ _ _ h => h) (fun o ho W hW => by unfold execOp; simp only [ho]; go_simp; try simp) HS.out ?_
      simp only [Act.put, List.setIfInBounds_toArray, List.set_cons_zero, List.set_cons_succ]
      refine anyH_pureG 11 (d := 28) (op := .move (.tmp 27)) (gd := none) (.bool false) (by rfl) (fun o ho => wanted_plain ho _) (by kernel_rfl) (by kernel_rfl) (by kernel_rfl) (fun _ _ _ h => h) (fun o ho W hW => by unfold execOp; simp only [ho]; go_simp) HS.out ?_
      simp only [Act.put, List.setIfInBounds_toArray, List.set_cons_zero, List.set_cons_succ]
      refine anyH_pureG 12 (d := 29) (op := .move (.tmp 0)) (gd := some (11, false)) (.slice (some ⟨pb, po, none⟩) n c1) (by rfl) (fun o ho => by simp only [Region.wanted, ho]; rfl) (by kernel_rfl) (by kernel_rfl) (by kernel_rfl) (fun _ _ _ h => h) (fun o ho W hW => by unfold execOp; simp only [ho]; go_simp) HS.out ?_
      simp only [Act.put, List.setIfInBounds_toArray, List.set_cons_zero, List.set_cons_succ]
      refine anyH_pureG 13 (d := 30) (op := .move (.tmp 5)) (gd := some (11, false)) (.int .i64 (k : Int)) (by rfl) (fun o ho => by simp only [Region.wanted, ho]; rfl) (by kernel_rfl) (by kernel_rfl) (by kernel_rfl) (fun _ _ _ h => h) (fun o ho W hW => by unfold execOp; simp only [ho]; go_simp) HS.out ?_
      simp only [Act.put, List.setIfInBounds_toArray, List.set_cons_zero, List.set_cons_succ]
      refine anyH_pureG 14 (d := 31) (op := .indexAddr 33 (.tmp 29) (.tmp 30)) (gd := some (11, false)) (.pointer (some ⟨pb, po + 2 * k, none⟩)) (by rfl) (fun o ho => by simp only [Region.wanted, ho]; rfl) (by kernel_rfl) (by kernel_rfl) (by kernel_rfl) (fun _ _ _ h => h) (fun o1 ho W hW => exec_pair_idx hkn (x := .tmp 29) (y := .tmp 30) (by rfl) (by rfl) o1 ho W) HS.out ?_
      simp only [Act.put, List.setIfInBounds_toArray, List.set_cons_zero, List.set_cons_succ]
      refine anyH_pureG 15 (d := 32) (op := .fieldAddr 46 (.tmp 31) 1) (gd := some (11, false)) (.pointer (some ⟨pb, po + 2 * k + 1, none⟩)) (by rfl) (fun o ho => by simp only [Region.wanted, ho]; rfl) (by kernel_rfl) (by kernel_rfl) (by kernel_rfl) (fun _ _ _ h => h) (fun o ho W hW => by unfold execOp; simp only [ho]; go_simp) HS.out ?_
      simp only [Act.put, List.setIfInBounds_toArray, List.set_cons_zero, List.set_cons_succ]
      refine anyH_loadG 16 (d := 33) (ty := 41) (x := (.tmp 32)) (gd := some (11, false)) (p := .pointer (some ⟨pb, po + 2 * k + 1, none⟩)) (.slice ra rn rc) (by rfl) (fun o ho => by simp only [Region.wanted, ho]; rfl) (by kernel_rfl) (by kernel_rfl) (by kernel_rfl) (fun _ _ _ h => h) (by rfl) HL3.out HS.out ?_
      simp only [Act.put, List.setIfInBounds_toArray, List.set_cons_zero, List.set_cons_succ]
      refine anyH_pureG 17 (d := 34) (op := .move (.tmp 1)) (gd := some (11, false)) (.slice (some ⟨qb, qo, none⟩) n c2) (by rfl) (fun o ho => by simp only [Region.wanted, ho]; rfl) (by kernel_rfl) (by kernel_rfl) (by kernel_rfl) (fun _ _ _ h => h) (fun o ho W hW => by unfold execOp; simp only [ho]; go_simp) HS.out ?_
      simp only [Act.put, List.setIfInBounds_toArray, List.set_cons_zero, List.set_cons_succ]
      refine anyH_pureG 18 (d := 35) (op := .move (.tmp 5)) (gd := some (11, false)) (.int .i64 (k : Int)) (by rfl) (fun o ho => by simp only [Region.wanted, ho]; rfl) (by kernel_rfl) (by kernel_rfl) (by kernel_rfl) (fun _ _ _ h => h) (fun o ho W hW => by unfold execOp; simp only [ho]; go_simp) HS.out ?_
      simp only [Act.put, List.setIfInBounds_toArray, List.set_cons_zero, List.set_cons_succ]
      refine anyH_pureG 19 (d := 36) (op := .indexAddr 33 (.tmp 34) (.tmp 35)) (gd := some (11, false)) (.pointer (some ⟨qb, qo + 2 * k, none⟩)) (by rfl) (fun o ho => by simp only [Region.wanted, ho]; rfl) (by kernel_rfl) (by kernel_rfl) (by kernel_rfl) (fun _ _ _ h => h) (fun o1 ho W hW => exec_pair_idx hkn (x := .tmp 34) (y := .tmp 35) (by rfl) (by rfl) o1 ho W) HS.out ?_
      simp only [Act.put, List.setIfInBounds_toArray, List.set_cons_zero, List.set_cons_succ]
      refine anyH_pureG 20 (d := 37) (op := .fieldAddr 46 (.tmp 36) 1) (gd := some (11, false)) (.pointer (some ⟨qb, qo + 2 * k + 1, none⟩)) (by rfl) (fun o ho => by simp only [Region.wanted, ho]; rfl) (by kernel_rfl) (by kernel_rfl) (by kernel_rfl) (fun _ _ _ h => h) (fun o ho W hW => by unfold execOp; simp only [ho]; go_simp) HS.out ?_
      simp only [Act.put, List.setIfInBounds_toArray, List.set_cons_zero, List.set_cons_succ]
      refine anyH_loadG 21 (d := 38) (ty := 41) (x := (.tmp 37)) (gd := some (11, false)) (p := .pointer (some ⟨qb, qo + 2 * k + 1, none⟩)) (.slice sa rn sc) (by rfl) (fun o ho => by simp only [Region.wanted, ho]; rfl) (by kernel_rfl) (by kernel_rfl) (by kernel_rfl) (fun _ _ _ h => h) (by rfl) HL4.out HS.out ?_
      simp only [Act.put, List.setIfInBounds_toArray, List.set_cons_zero, List.set_cons_succ]
      refine anyH_callG 22 (d := some 39) (f := 15) (xs := #[(.tmp 33), (.tmp 38)]) (ts := #[41, 41]) (gd := some (11, false)) (vs := #[.slice ra rn rc, .slice sa rn sc]) (by kernel_rfl) (by rfl) (fun o ho => by simp only [Region.wanted, ho]; rfl) (by go_simp) (by go_simp) (HSM.out) ?_
      rintro e8 w8 ⟨rfl, q8, hw8⟩
      have hb8 : Below w4.heap.size w4 w8 := by rw [hw8]; exact below_drewN' _ w4 q8
      have HS := Lib.hid (HS.out.step hb8)
      have HBC := Lib.hid hb8
      clear hw8 hb8
      refine ⟨_, rfl, HS.out, fun _ => ?_⟩
      simp only [Act.put, List.setIfInBounds_toArray, List.set_cons_zero, List.set_cons_succ]
      refine anyH_pureG 23 (d := 40) (op := .unOp .not 4 (.tmp 39)) (gd := some (11, false)) (.bool false) (by rfl) (fun o ho => by simp only [Region.wanted, ho]; rfl) (by kernel_rfl) (by kernel_rfl) (by kernel_rfl) (fun _ _ _ h => h) (fun o ho W hW => by unfold execOp; simp only [ho]; go_simp) HS.out ?_
      simp only [Act.put, List.setIfInBounds_toArray, List.set_cons_zero, List.set_cons_succ]
      refine anyH_pureG 24 (d := 41) (op := .pick (.tmp 28) (.const (.bool true)) (.tmp 40)) (gd := none) (.bool false) (by rfl) (fun o ho => wanted_plain ho _) (by kernel_rfl) (by kernel_rfl) (by kernel_rfl) (fun _ _ _ h => h) (fun o ho W hW => by unfold execOp; simp only [ho]; go_simp) HS.out ?_
      simp only [Act.put, List.setIfInBounds_toArray, List.set_cons_zero, List.set_cons_succ]
      refine wpAnyH_done (by kernel_rfl) ?_ _
      have HBX := Lib.hid (HB4.out.trans (HBC.out.mono HB4.out.size))
      clear HS HL1 HL2 HL3 HL4 HSM HB4 HBC
      go_wp2_with fail
      go_roundw
      case rel => exact ⟨k + 1, by omega, by go_num, HBX⟩
      case measure => simp [intOf]; omega
    · go_wp2_with fail
      go_ret
      exact ⟨rfl, HB.out⟩
end Go.Proofs.Ytihbgigledmliaa
namespace Go.Proofs.Ytihbgigledmliaa
open Go.RowKit
set_option linter.unusedVariables false
set_option maxRecDepth 100000 in
set_option maxHeartbeats 4000000 in
theorem tis_c {B m n tb : Nat} {V : Nat → Prop} {D : DU} {f : ByteArray → Option (List Nat)} {jv : Value} {dn : Bool} {w : World} (h : TM B V w m n D f) (ht : TRow w tb jv m dn) (hz : Maps.size D ≤ 100000) (hns : ∀ s, (f s).isSome = true → s.size ≤ 400 ∧ kyP ⟨#[]⟩ ⟨#[]⟩ s = true) (hv : ∀ s, ((f s).getD []).length ≤ 140737488351232 ∧ ∀ z ∈ (f s).getD [], z < 256)
    {N2 : Nat → Prop} {a2 : Option Addr} {n2 c2 : Nat} {M : Fls} (h2 : RF N2 w a2 n2 M) (hM : Srt M) (hMf : ∀ s, lookF M s = f s) (hn2 : n2 ≤ 1000000000) :
    Calls Try.prog 16 #[.pointer (some ⟨tb, 0, none⟩), .slice a2 n2 c2] w fun e w' => e = .returned (.bool true) ∧ Below w.heap.size w w' := by
  have HP := Lib.hid (tpairs_c h ht hz hns hv)
  have H2 := Lib.hid h2
  have HV := Lib.hid hv
  have HM := Lib.hid hM
  have HMF := Lib.hid hMf
  clear h ht hns hv h2 hM hMf hz
  go_enter Try.func16, Try.ntmps16
  go_wp2_with fail
  refine (HP.out).mono ?_
  rintro e1 w1 ⟨L, a, len, cap, k1, k2, rfl, k3, k4⟩
  have hL : L = M := srt_ext k1 HM.out fun s => by rw [k2, HMF.out]
  subst hL
  obtain rfl : len = n2 := by rw [k3.ln, H2.out.ln]
  have HB1 := Lib.hid k4
  have HSM := Lib.hid (psame_c (c1 := cap) (c2 := c2) k3 (H2.out.below k4) hn2 fun p hp => by
    have h5 := lookF_of_mem HM.out hp
    rw [HMF.out] at h5
    have h6 := (HV.out p.1).1
    rw [h5] at h6
    exact Nat.le_trans h6 (by omega))
  clear k1 k2 k3 k4 HP HV
  go_wp2_with fail
  refine (HSM.out).mono ?_
  rintro e2 w2 ⟨rfl, hb2⟩
  have HB2 := Lib.hid (HB1.out.trans (hb2.mono HB1.out.size))
  clear hb2 HSM
  go_wp2_with fail
  go_ret
  exact ⟨rfl, HB2.out⟩
/-- the keys ahead of a key's place are less, the ones behind it are not -/
theorem atP_split : ∀ (l : Fls) (n : ByteArray), (∀ x ∈ l.take (atP l n), ltB x.1 n) ∧ ∀ x, (l.drop (atP l n)).head? = some x → ¬ ltB x.1 n
  | [], n => by simp [atP]
  | x :: l, n => by
    have ih := atP_split l n
    by_cases e : ltB x.1 n
    · have h : atP (x :: l) n = atP l n + 1 := by unfold atP; rw [List.takeWhile_cons, if_pos (by simpa using e)]; rfl
      rw [h]
      refine ⟨fun y hy => ?_, fun y hy => ih.2 y (by simpa using hy)⟩
      rcases List.mem_cons.1 (by simpa using hy) with rfl | h1
      · exact e
      · exact ih.1 y h1
    · have h : atP (x :: l) n = 0 := by unfold atP; rw [List.takeWhile_cons, if_neg (by simpa using e)]; rfl
      rw [h]
      refine ⟨fun y hy => by simp at hy, fun y hy => ?_⟩
      have : x = y := by simpa using hy
      subst this
      exact e
theorem mem_without : ∀ {l : Fls} {n : ByteArray} {x : ByteArray × List Nat}, x ∈ withoutF l n ↔ x ∈ l ∧ x.1 ≠ n
  | [], n, x => by simp [withoutF]
  | y :: l, n, x => by
    unfold withoutF
    by_cases e : y.1 = n
    · rw [if_pos e, mem_without]
      constructor
      · rintro ⟨h1, h2⟩
        exact ⟨List.mem_cons_of_mem _ h1, h2⟩
      · rintro ⟨h1, h2⟩
        rcases List.mem_cons.1 h1 with rfl | h1
        · exact absurd e h2
        · exact ⟨h1, h2⟩
    · rw [if_neg e, List.mem_cons, mem_without, List.mem_cons]
      constructor
      · rintro (rfl | ⟨h1, h2⟩)
        · exact ⟨.inl rfl, e⟩
        · exact ⟨.inr h1, h2⟩
      · rintro ⟨rfl | h1, h2⟩
        · exact .inl rfl
        · exact .inr ⟨h1, h2⟩
theorem without_sub : ∀ (l : Fls) (n : ByteArray), (withoutF l n).Sublist l
  | [], n => by simp [withoutF]
  | x :: l, n => by
    unfold withoutF
    split
    · exact (without_sub l n).cons x
    · exact (without_sub l n).cons_cons x
/-- behind a key's place no key is less, in a sorted list -/
theorem drop_ge {l : Fls} {n : ByteArray} (h : Srt l) : ∀ x ∈ l.drop (atP l n), ¬ ltB x.1 n := by
  intro x hx hlt
  have h2 := (atP_split l n).2
  have hs : Srt (l.drop (atP l n)) := h.sublist (List.drop_sublist _ _)
  cases hd : l.drop (atP l n) with
  | nil => rw [hd] at hx; cases hx
  | cons y r =>
    rw [hd] at hx h2 hs
    have hy := h2 y rfl
    rcases List.mem_cons.1 hx with rfl | hx
    · exact hy hlt
    · exact hy (ltB_trans ((List.pairwise_cons.1 hs).1 x hx) hlt)
theorem srt_doP {l : Fls} (h : Srt l) (c : ByteArray × Bool × List Nat) : Srt (doP l c) := by
  have h1 : Srt (l.take (atP l c.1)) := h.sublist (List.take_sublist _ _)
  have h2 : Srt (withoutF (l.drop (atP l c.1)) c.1) := h.sublist ((without_sub _ _).trans (List.drop_sublist _ _))
  have h3 : ∀ x ∈ withoutF (l.drop (atP l c.1)) c.1, ltB c.1 x.1 := fun x hx => by
    obtain ⟨k1, k2⟩ := mem_without.1 hx
    exact ltB_of (drop_ge h x k1) k2
  have h4 := (atP_split l c.1).1
  unfold doP Srt
  rw [List.append_assoc, List.pairwise_append]
  refine ⟨h1, ?_, fun a ha b hb => ?_⟩
  · rw [List.pairwise_append]
    refine ⟨by split <;> simp, h2, fun a ha b hb => ?_⟩
    split at ha
    · cases ha
    · obtain rfl : a = (c.1, c.2.2) := by simpa using ha
      exact h3 b hb
  · rcases List.mem_append.1 hb with hb | hb
    · split at hb
      · cases hb
      · obtain rfl : b = (c.1, c.2.2) := by simpa using hb
        exact h4 a ha
    · exact ltB_trans (h4 a ha) (h3 b hb)
/-- what a list holds, by its members -/
theorem lookF_iff {l : Fls} (h : Srt l) (s : ByteArray) (z : List Nat) : lookF l s = some z ↔ (s, z) ∈ l := ⟨lookF_mem, fun hm => lookF_of_mem h hm⟩
theorem mem_doP {l : Fls} (h : Srt l) (c : ByteArray × Bool × List Nat) (x : ByteArray × List Nat) : x ∈ doP l c ↔ (x ∈ l ∧ x.1 ≠ c.1) ∨ (c.2.1 = false ∧ x = (c.1, c.2.2)) := by
  have h4 := (atP_split l c.1).1
  have h0 : x ∈ l ↔ x ∈ l.take (atP l c.1) ∨ x ∈ l.drop (atP l c.1) := by
    rw [← List.mem_append, List.take_append_drop]
  unfold doP
  rw [List.mem_append, List.mem_append, mem_without]
  constructor
  · rintro ((h1 | h1) | ⟨h1, h2⟩)
    · exact .inl ⟨h0.2 (.inl h1), fun e => ltB_irrefl c.1 (by have := h4 x h1; rw [e] at this; exact this)⟩
    · split at h1
      · cases h1
      · rename_i hg
        exact .inr ⟨by simpa using hg, by simpa using h1⟩
    · exact .inl ⟨h0.2 (.inr h1), h2⟩
  · rintro (⟨h1, h2⟩ | ⟨h1, h2⟩)
    · rcases h0.1 h1 with h3 | h3
      · exact .inl (.inl h3)
      · exact .inr ⟨h3, h2⟩
    · refine .inl (.inr ?_)
      rw [h1, h2]
      simp
theorem lookF_doP {l : Fls} (h : Srt l) (c : ByteArray × Bool × List Nat) (s : ByteArray) : lookF (doP l c) s = if s = c.1 then (if c.2.1 then none else some c.2.2) else lookF l s := by
  have hs := srt_doP h c
  refine Option.ext fun z => ?_
  rw [lookF_iff hs, mem_doP h]
  by_cases e : s = c.1
  · rw [if_pos e]
    subst e
    cases hg : c.2.1 with
    | true => simp
    | false => simp [eq_comm]
  · rw [if_neg e, lookF_iff h]
    constructor
    · rintro (⟨h1, _⟩ | ⟨_, h2⟩)
      · exact h1
      · exact absurd (congrArg Prod.fst h2) e
    · exact fun h1 => .inl ⟨h1, e⟩
theorem doL_apply : ∀ (L : List Cg) {l : Fls} {f : ByteArray → Option (List Nat)}, Srt l → (∀ s, lookF l s = f s) → Srt (doL l (L.map cgE)) ∧ ∀ s, lookF (doL l (L.map cgE)) s = applyL f L s
  | [], l, f, h, hf => ⟨h, hf⟩
  | c :: L, l, f, h, hf => by
    have hstep : ∀ s, lookF (doP l (cgE c)) s = applyC f c s := fun s => by
      rw [lookF_doP h]
      obtain ⟨key, gone, va, vn, vc, val⟩ := c
      unfold applyC cgE
      cases gone with
      | true => simp [hf]
      | false => simp [hf]
    exact doL_apply L (srt_doP h (cgE c)) hstep
end Go.Proofs.Ytihbgigledmliaa
namespace Go.Proofs.Ytihbgigledmliaa
open Go.RowKit
set_option linter.unusedVariables false
theorem lt_ext : ∀ {l m : List ByteArray}, l.Pairwise ltB → m.Pairwise ltB → (∀ s, s ∈ l ↔ s ∈ m) → l = m
  | [], [], _, _, _ => rfl
  | [], y :: m, _, _, h => absurd ((h y).2 List.mem_cons_self) (by simp)
  | x :: l, [], _, _, h => absurd ((h x).1 List.mem_cons_self) (by simp)
  | x :: l, y :: m, h1, h2, h => by
    obtain ⟨a1, a2⟩ := List.pairwise_cons.1 h1
    obtain ⟨b1, b2⟩ := List.pairwise_cons.1 h2
    have e : x = y := by
      rcases List.mem_cons.1 ((h x).1 List.mem_cons_self) with e | e
      · exact e
      · rcases List.mem_cons.1 ((h y).2 List.mem_cons_self) with k | k
        · exact k.symm
        · exact absurd (ltB_trans (a1 y k) (b1 x e)) (ltB_irrefl x)
    subst e
    rw [lt_ext a2 b2 fun s => ?_]
    constructor
    · intro hs
      rcases List.mem_cons.1 ((h s).1 (List.mem_cons_of_mem _ hs)) with k | k
      · subst k
        exact absurd (a1 s hs) (ltB_irrefl s)
      · exact k
    · intro hs
      rcases List.mem_cons.1 ((h s).2 (List.mem_cons_of_mem _ hs)) with k | k
      · subst k
        exact absurd (b1 s hs) (ltB_irrefl s)
      · exact k
theorem srt_keys {M : Fls} (h : Srt M) (head after : ByteArray) : (keysP M head after).Pairwise ltB := by
  unfold keysP
  refine List.Pairwise.filter _ ?_
  rw [List.pairwise_map]
  exact h
theorem mem_keys {M : Fls} {f : ByteArray → Option (List Nat)} (h : Srt M) (hf : ∀ s, lookF M s = f s) (head after s : ByteArray) : s ∈ keysP M head after ↔ (f s).isSome = true ∧ kyP head after s = true := by
  unfold keysP
  rw [List.mem_filter, List.mem_map, ← hf]
  refine and_congr_left fun _ => ?_
  constructor
  · rintro ⟨x, hx, rfl⟩
    rw [lookF_of_mem h hx]
    rfl
  · intro hs
    obtain ⟨z, hz⟩ := Option.isSome_iff_exists.1 hs
    exact ⟨(s, z), lookF_mem hz, rfl⟩
/-- what the table's Keys tells is what the document's does -/
theorem keys_same {M : Fls} {f : ByteArray → Option (List Nat)} {head after : ByteArray} {cs : List ByteArray} (h : Srt M) (hf : ∀ s, lookF M s = f s) (h1 : cs.Nodup) (h2 : ∀ s, s ∈ cs ↔ (f s).isSome = true ∧ kyP head after s = true) (h3 : cs.Pairwise fun a b => a.data.toList ≤ b.data.toList) : cs = keysP M head after := by
  refine lt_ext ((h3.and h1).imp fun {a b} h => ?_) (srt_keys h head after) fun s => by rw [h2, mem_keys h hf]
  show ltB a b
  by_cases hl : ltB a b
  · exact hl
  · exact absurd (ba_ext (List.le_antisymm h.1 (List.not_lt.1 hl))) h.2
/-- a key that is there stands at its place -/
theorem atP_some {M : Fls} {s : ByteArray} {z : List Nat} (h : Srt M) (hs : lookF M s = some z) : M[atP M s]? = some (s, z) := by
  have hm := lookF_mem hs
  rw [← List.take_append_drop (atP M s) M, List.mem_append] at hm
  rcases hm with hm | hm
  · exact absurd ((atP_split M s).1 _ hm) (ltB_irrefl s)
  · have hd : M[atP M s]? = (M.drop (atP M s)).head? := by rw [List.head?_drop]
    rw [hd]
    have hsr : Srt (M.drop (atP M s)) := h.sublist (List.drop_sublist _ _)
    have h2 := (atP_split M s).2
    cases e : M.drop (atP M s) with
    | nil => rw [e] at hm; cases hm
    | cons y r =>
      rw [e] at hm hsr h2
      rcases List.mem_cons.1 hm with k | k
      · rw [k]; rfl
      · exact absurd ((List.pairwise_cons.1 hsr).1 _ k) (h2 y rfl)
/-- a key that isn't there stands nowhere -/
theorem atP_none {M : Fls} {s : ByteArray} (h : lookF M s = none) : ∀ x, M[atP M s]? = some x → x.1 ≠ s := fun x hx => lookF_none h x (List.mem_of_getElem? hx)
/-- the keys of changes that can be laid down are neither empty nor long -/
theorem kyP_all {s : ByteArray} (h : s.size ≠ 0) : kyP ⟨#[]⟩ ⟨#[]⟩ s = true := by
  have h1 : s.toList ≠ [] := by
    rw [Lib.toList_data]
    intro e
    have : s.data.toList.length = 0 := by rw [e]; rfl
    exact h this
  cases e : s.toList with
  | nil => exact absurd e h1
  | cons x r =>
    have e0 : (ByteArray.mk #[]).toList = [] := by rw [Lib.toList_data]
    have e2 : hasP ⟨#[]⟩ s = true := rfl
    have e3 : gtB s ⟨#[]⟩ = true := by
      unfold gtB
      rw [e, e0]
      rfl
    unfold kyP
    rw [e2, e3]
    rfl
end Go.Proofs.Ytihbgigledmliaa
namespace Go.Proofs.Ytihbgigledmliaa
open Go.RowKit
set_option linter.unusedVariables false
/-- what `to` hands back is a row of changes, all of it newer than the call -/
theorem ToS.cgIn {w : World} {L : List Cg} {v : Value} {W : World} (h : ToS w L L.length v W) : ∃ M a cap, v = .slice a L.length cap ∧ M.map cgE = L.map cgE ∧ M.length = L.length ∧ CgIn W a L.length cap M ∧ (∀ b o s, a = some ⟨b, o, s⟩ → w.heap.size ≤ b ∧ b < W.heap.size) ∧ ∀ c ∈ M, ∀ b o s, c.va = some ⟨b, o, s⟩ → w.heap.size ≤ b ∧ b < W.heap.size := by
  obtain ⟨⟨M, h1, h2, h3⟩, h4⟩ := h
  rw [List.take_of_length_le (Nat.le_refl _)] at h1
  have hl : M.length = L.length := by simpa using congrArg List.length h1
  have hv : ∀ c ∈ M, ∀ b o s, c.va = some ⟨b, o, s⟩ → w.heap.size ≤ b ∧ b < W.heap.size := fun c hc b o s e => by
    rcases (h3 c hc).1.2 with ⟨k1, _⟩ | ⟨g, cap, cur, k1, k2, k3, _⟩
    · rw [(Value.slice.inj k1).1] at e; cases e
    · rw [(Value.slice.inj k1).1] at e
      cases e
      exact ⟨k2, (Array.getElem?_eq_some_iff.1 k3).1⟩
  rcases h2.2 with ⟨e1, e2⟩ | ⟨g, cap, cur, e1, e2, e3, e4, e5, e6, e7⟩
  · rw [hl] at e2
    refine ⟨M, none, 0, by rw [e1, e2], h1, hl, ⟨hl, by omega, by omega, .inl e2, fun c hc => (h3 c hc).cg.1⟩, fun b o s e => (by cases e), hv⟩
  · have hgl := (Array.getElem?_eq_some_iff.1 e3).1
    refine ⟨M, some ⟨g, 0, none⟩, cap, by rw [e1, hl], h1, hl, ⟨hl, by omega, by unfold maxLen at e5; omega, .inr ⟨g, 0, rfl, hgl, fun i c hc => ?_⟩, fun c hc => (h3 c hc).cg.1⟩, fun b o s e => (by cases e; exact ⟨e2, hgl⟩), hv⟩
    have hi := (List.getElem?_eq_some_iff.1 hc).1
    have key : ∀ j, j < 3 → W.cell? ⟨g, 0 + i * 3 + j, none⟩ = (cgC c)[j]? := fun j hj => by
      rw [Nat.zero_add, cell_of_row W g _ cur _ _ e3, ← flat_get M i c hc j hj, ← e7, List.getElem?_take, if_pos (by omega), Array.getElem?_toList]
    exact ⟨key 0 (by omega), key 1 (by omega), key 2 (by omega)⟩
theorem applyL_cgE : ∀ {M L : List Cg} (f : ByteArray → Option (List Nat)), M.map cgE = L.map cgE → applyL f M = applyL f L
  | [], [], f, _ => rfl
  | [], c :: L, f, h => by simp at h
  | c :: M, [], f, h => by simp at h
  | c :: M, d :: L, f, h => by
    rw [List.map_cons, List.map_cons, List.cons.injEq] at h
    have e : applyC f c = applyC f d := by
      have h1 := h.1
      unfold cgE at h1
      simp only [Prod.mk.injEq] at h1
      unfold applyC
      rw [h1.1, h1.2.1, h1.2.2]
    unfold applyL
    rw [List.foldl_cons, List.foldl_cons, e]
    exact applyL_cgE (applyC f d) h.2
/-- a key that is there is a change's -/
theorem applyL_keys : ∀ {L : List Cg} {f : ByteArray → Option (List Nat)} {s : ByteArray} {z : List Nat}, applyL f L s = some z → f s = some z ∨ ∃ c ∈ L, c.key = s ∧ c.val = z
  | [], f, s, z, h => .inl h
  | c :: L, f, s, z, h => by
    unfold applyL at h
    rw [List.foldl_cons] at h
    rcases applyL_keys (L := L) h with h1 | ⟨d, hd, h2⟩
    · unfold applyC at h1
      cases hg : c.gone with
      | true =>
        rw [hg] at h1
        by_cases e : s = c.key
        · simp [e] at h1
        · simp [e] at h1; exact .inl h1
      | false =>
        rw [hg] at h1
        by_cases e : s = c.key
        · simp [e] at h1
          exact .inr ⟨c, List.mem_cons_self, e.symm, h1⟩
        · simp [e] at h1; exact .inl h1
    · exact .inr ⟨d, List.mem_cons_of_mem _ hd, h2⟩
theorem nodup_le : ∀ {ks L : List ByteArray}, ks.Nodup → (∀ s ∈ ks, s ∈ L) → ks.length ≤ L.length
  | [], L, _, _ => Nat.zero_le _
  | x :: r, L, h, hs => by
    obtain ⟨h1, h2⟩ := List.nodup_cons.1 h
    obtain ⟨a, b, rfl⟩ := List.append_of_mem (hs x List.mem_cons_self)
    have := nodup_le (L := a ++ b) h2 fun s k => by
      have hm := hs s (List.mem_cons_of_mem _ k)
      rcases List.mem_append.1 hm with m | m
      · exact List.mem_append.2 (.inl m)
      · rcases List.mem_cons.1 m with rfl | m
        · exact absurd k h1
        · exact List.mem_append.2 (.inr m)
    rw [List.length_append] at this
    rw [List.length_append, List.length_cons, List.length_cons]
    omega
/-- no more keys than changes -/
theorem keys_few {L : List Cg} {ks : List ByteArray} (hn : ks.Nodup) (hk : ∀ s ∈ ks, (applyL (fun _ => none) L s).isSome = true) : ks.length ≤ L.length := by
  have hsub : ∀ s ∈ ks, s ∈ L.map (·.key) := fun s hs => by
    obtain ⟨z, hz⟩ := Option.isSome_iff_exists.1 (hk s hs)
    rcases applyL_keys hz with h1 | ⟨c, hc, h2, _⟩
    · cases h1
    · exact List.mem_map.2 ⟨c, hc, h2⟩
  have := nodup_le hn hsub
  simpa using this
end Go.Proofs.Ytihbgigledmliaa
namespace Go.Proofs.Ytihbgigledmliaa
open Go.RowKit
set_option linter.unusedVariables false
theorem encG_sound : ∀ {L : List Cg} {acc : List Nat}, (encG acc L).2 = 0 → ∀ c ∈ L, soundC c.key c.vn = true
  | [], _, _, c, hc => by cases hc
  | x :: L, acc, h, c, hc => by
    unfold encG at h
    cases hs : soundC x.key x.vn with
    | false => rw [hs] at h; simp at h
    | true =>
      rw [hs] at h
      simp only [Bool.true_eq_false, if_false] at h
      split at h
      · simp at h
      · rcases List.mem_cons.1 hc with rfl | hc
        · exact hs
        · exact encG_sound h c hc
theorem encT_sound {L : List Cg} (h : (encT L).2 = 0) : ∀ c ∈ L, soundC c.key c.vn = true := by
  unfold encT at h
  split at h
  · simp at h
  · exact encG_sound h
theorem keyed {L : List Cg} (h : ∀ c ∈ L, soundC c.key c.vn = true) (s : ByteArray) (hs : (applyL (fun _ => none) L s).isSome = true) : s.size ≤ 400 ∧ kyP ⟨#[]⟩ ⟨#[]⟩ s = true := by
  obtain ⟨z, hz⟩ := Option.isSome_iff_exists.1 hs
  rcases applyL_keys hz with h1 | ⟨c, hc, rfl, _⟩
  · cases h1
  · have h2 := h c hc
    unfold soundC at h2
    simp only [Bool.and_eq_true, decide_eq_true_eq] at h2
    exact ⟨by omega, kyP_all (by omega)⟩
end Go.Proofs.Ytihbgigledmliaa
