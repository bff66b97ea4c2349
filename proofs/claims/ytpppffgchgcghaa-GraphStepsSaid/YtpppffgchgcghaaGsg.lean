/-
  GraphSteps, walked: the graph, the marker, the steps.
-/
import Derived.Test.YtpppffgchgcghaaGsf
namespace Go.Proofs.Ytpppffgchgcghaa
open Go.RowKit Go.Maps
set_option linter.unusedVariables false
/-- is it among the first? -/
def isIn (nn : List Nat) (dv : Ds) (j : Nat) : Bool := decide (nn ∈ dv.take j)
/-- in the middle of the search -/
def InI (B g k : Nat) (w : World) (f : List Nat → Option Ds) (s2 : Ms) (av : Option Addr) (nv : Nat) (dv : Ds) (nn : List Nat) (j : Nat) (v : Value) (wr : World) : Prop := v = .bool (isIn nn dv j) ∧ SG B g k 120 w f s2 wr ∧ DR wr av nv dv
set_option maxRecDepth 100000 in
set_option maxHeartbeats 16000000 in
theorem gsteps_c (a0 : Option Addr) (len0 cap0 : Nat) (L : List Sl) (a1 : Option Addr) (len1 cap1 : Nat) (z1 : List Nat) (a2 : Option Addr) (len2 cap2 : Nat) (z2 : List Int) (w : World) (r0 : BssIn w a0 len0 cap0 L) (r1 : BytesIn w a1 len1 cap1 z1) (r2 : IntsIn w a2 len2 cap2 z2) :
    Calls Try.prog 5 #[.slice a0 len0 cap0, .slice a1 len1 cap1, .slice a2 len2 cap2] w fun e w' => e = .returned (.bool true) ∧ Below w.heap.size w w' := by
  obtain ⟨m9, hm9⟩ : ∃ m : Nat, m = min len0 9 := ⟨_, rfl⟩
  have e9 : min (len0 : Int) 9 = (m9 : Int) := by omega
  have hm99 : m9 ≤ 9 := by omega
  have hm9l : m9 ≤ len0 := by omega
  have hlc0 : len0 ≤ cap0 := r0.2.2.1
  have hcm0 : cap0 ≤ 9223372036854775807 := r0.2.2.2.1
  have R0 := Lib.hid r0
  have R1 := Lib.hid r1
  have R2 := Lib.hid r2
  obtain ⟨Lz, hLz⟩ : ∃ Lz, Lz = L.map (fun s : Sl => s.2.2.2) := ⟨_, rfl⟩
  have HLZ := Lib.hid hLz
  have HNW := Lib.hid (gnew_c w)
  clear r0 r1 r2 hLz hm9
  go_enter Try.func5, Try.ntmps5
  go_wp2_with fail
  refine HNW.out.mono ?_
  rintro e1 w1 ⟨rfl, hg1, hb1⟩
  obtain ⟨g, hg⟩ : ∃ g, g = w.heap.size := ⟨_, rfl⟩
  rw [← hg]
  have HP0 := Lib.hid (show PG w.heap.size g 0 w (fE Lz 0) w1 from ⟨⟨_, by rw [hg]; exact hg1⟩, hb1, hb1.size⟩)
  clear hg1 hb1 hg HNW
  go_wp2_with fail
  go_loopw [27] (fun i wr => ∃ j : Nat, j ≤ m9 ∧ i = .int .i64 j ∧ Hid (PG w.heap.size g j w (fE Lz j) wr)) (fun i _ => m9 - (intOf i).toNat)
  case atStart => exact ⟨0, Nat.zero_le _, rfl, HP0⟩
  case round =>
    clear HP0
    obtain ⟨j, hj, rfl, HP⟩ := hrel
    by_cases hjn : j < m9
    · obtain ⟨q1, q2, q3, q4, q5, q6⟩ := R0.out.below HP.out.bel
      obtain ⟨b, off, rfl, hb, hc⟩ := q5.resolve_left (by omega)
      obtain ⟨s, hs⟩ : ∃ s, L[j]? = some s := ⟨_, List.getElem?_eq_getElem (by omega)⟩
      have hcj := hc j s hs
      obtain ⟨sa, sn, sc, sz⟩ := s
      simp only [slv] at hcj
      have hsb := q6 _ (List.mem_of_getElem? hs)
      obtain ⟨u1, u2, u3, u4⟩ := hsb
      simp only at u1 u2 u3 u4
      have HLJ := Lib.hid (show Lz.getD j [] = sz from by rw [HLZ.out, List.getD_eq_getElem?_getD, List.getElem?_map, hs]; rfl)
      have HU := Lib.hid (And.intro u1 (And.intro u3 u4))
      have HND := Lib.hid (node_c j (by omega) wr)
      clear q1 q2 q3 q4 q5 q6 hc hs u1 u2 u3 u4 hb
      go_wp2_with fail
      refine HND.out.mono ?_
      rintro e2 w2 ⟨rfl, hb2⟩
      have HB2 := Lib.hid hb2
      have HNS := Lib.hid (nodes_c sa sn sc sz w2 (HU.out.1.below hb2) HU.out.2.1 HU.out.2.2)
      obtain ⟨nn, hnn⟩ : ∃ nn : List Nat, nn = nd j := ⟨_, rfl⟩
      rw [← hnn]
      have HNN := Lib.hid hnn
      clear hb2 HND hcj hnn
      go_wp2_with fail
      refine HNS.out.mono ?_
      rintro e3 w3 ⟨a', n', c', rfl, ho3, hb3⟩
      have HPT := Lib.hid (HP.out.put (by omega) (HB2.out.trans (hb3.mono HB2.out.size)) (show D32 nn from by rw [HNN.out]; exact d32_nd j) (OwnD.base ho3 HB2.out.size))
      clear ho3 hb3 HNS
      go_wp2_with fail
      refine HPT.out.mono ?_
      rintro e4 w4 ⟨rfl, hp4⟩
      have HPN := Lib.hid (show PG w.heap.size g (j + 1) w (fE Lz (j + 1)) w4 from by
        have : fE Lz (j + 1) = fun t => if t = nn then some (ndsP sz) else fE Lz j t := by simp only [fE, HLJ.out, HNN.out]
        rw [this]
        exact hp4)
      clear hp4 HPT HP
      go_wp2_with fail
      go_roundw
      case rel => exact ⟨j + 1, by omega, by go_num, HPN⟩
      case measure => simp [intOf]; omega
    · obtain rfl : j = m9 := by omega
      obtain ⟨f, hf⟩ : ∃ f, f = fE Lz j := ⟨_, rfl⟩
      have HSF := Lib.hid (show SmallF f from by rw [hf]; exact fE_small Lz j)
      have HBD := Lib.hid (show Bd f (ndsP z1) (fun _ => false) 120 from by rw [hf]; exact fE_bd Lz j hm99 _ (ndsP_len z1))
      have HPG := Lib.hid (show PG w.heap.size g j w f wr from by rw [hf]; exact HP.out)
      clear HP hf
      have HNS := Lib.hid (nodes_c a1 len1 cap1 z1 wr (R1.out.1.below HPG.out.bel) R1.out.2.2.1 R1.out.2.2.2)
      go_wp2_with fail
      refine HNS.out.mono ?_
      rintro e3 w3 ⟨a', n', c', rfl, ho3, hb3⟩
      have HMK := Lib.hid (HPG.out.mark (by omega) hb3 ho3 HBD.out)
      clear ho3 hb3 HNS
      go_wp2_with fail
      refine HMK.out.mono ?_
      rintro e4 w4 ⟨k, rfl, hsg⟩
      have HS4 := Lib.hid hsg
      clear hsg HMK HPG
      go_wp2_with fail
      refine (awake18_c w4).mono ?_
      rintro e5 w5 ⟨rfl, hb5⟩
      obtain ⟨s0, hs0⟩ : ∃ s0 : Ms, s0 = (ndsP z1, fun _ => false) := ⟨_, rfl⟩
      have HS0E := Lib.hid hs0
      have HS5 := Lib.hid (show ∃ J, SG w.heap.size g k 120 w f (itP f J s0) w5 from ⟨0, by rw [hs0]; exact HS4.out.below hb5⟩)
      clear hb5 HS4 hs0
      obtain ⟨m30, hm30⟩ : ∃ m : Nat, m = min len2 30 := ⟨_, rfl⟩
      have e30 : min (len2 : Int) 30 = (m30 : Int) := by omega
      have hm30b : m30 ≤ 30 := by omega
      have hm30l : m30 ≤ len2 := by omega
      have hlc2 : len2 ≤ cap2 := R2.out.2.2.2.1
      have hcm2 : cap2 ≤ 9223372036854775807 := R2.out.2.2.2.2.1
      clear hm30
      go_wp2_with fail
      go_loopw [56] (fun i wr => ∃ j : Nat, j ≤ m30 ∧ i = .int .i64 j ∧ Hid (∃ J, SG w.heap.size g k 120 w f (itP f J s0) wr)) (fun i _ => m30 - (intOf i).toNat)
      case atStart => exact ⟨0, Nat.zero_le _, rfl, HS5⟩
      case round =>
        clear HS5
        obtain ⟨i2, hi2, rfl, HP⟩ := hrel
        by_cases hin : i2 < m30
        · obtain ⟨J, hJ⟩ := HP.out
          have HSJ := Lib.hid hJ
          obtain ⟨q1, q2, q3, q4, q5, q6⟩ := R2.out.below hJ.bel
          obtain ⟨b, off, rfl, hb, hc⟩ := q6.resolve_left (by omega)
          obtain ⟨sz, hsz⟩ : ∃ sz, sz = z2.getD i2 0 := ⟨_, rfl⟩
          have hcj := hc i2 (by omega)
          rw [← hsz] at hcj
          have hszb : -9223372036854775808 ≤ sz ∧ sz ≤ 9223372036854775807 := by rw [hsz, List.getD_eq_getElem?_getD, List.getElem?_eq_getElem (by omega)]; exact q2 _ (List.getElem_mem _)
          obtain ⟨gl, hgl⟩ : ∃ gl, gl = (itP f J s0).1.length := ⟨_, rfl⟩
          have hglb : gl ≤ 120 := by rw [hgl]; exact hJ.len
          have HLF := Lib.hid (show Calls Try.prog 13 #[.pointer (some ⟨k, 0, none⟩)] wr fun e w' => e = .returned (.int .i64 (gl : Nat)) ∧ w' = wr from by rw [hgl]; exact hJ.left)
          have HST := Lib.hid (hJ.step (by omega) HSF.out sz hszb)
          obtain ⟨s2, hs2⟩ : ∃ s2, s2 = itP f sz.toNat (itP f J s0) := ⟨_, rfl⟩
          rw [← hs2] at HST
          obtain ⟨gl2, hgl2⟩ : ∃ gl2, gl2 = s2.1.length := ⟨_, rfl⟩
          rw [← hgl2] at HST
          have HS2 := Lib.hid (And.intro hs2 hgl2)
          have hnz : sz < 1 → gl2 = gl := fun h => by
            have : sz.toNat = 0 := by omega
            rw [hgl2, hs2, this]
            exact hgl.symm
          clear hJ q1 q2 q3 q4 q5 q6 hc hsz hb HP hgl hs2 hgl2
          go_wp2_with fail
          refine HLF.out.mono ?_
          rintro e6 w6 ⟨rfl, rfl⟩
          go_wp2_with fail
          refine HST.out.mono ?_
          rintro e7 w7 ⟨rfl, hs7⟩
          have hgl2b : gl2 ≤ 120 := by rw [HS2.out.2]; exact hs7.len
          have HLF2 := Lib.hid (show Calls Try.prog 13 #[.pointer (some ⟨k, 0, none⟩)] w7 fun e w' => e = .returned (.int .i64 (gl2 : Nat)) ∧ w' = w7 from by rw [HS2.out.2]; exact hs7.left)
          have HPN := Lib.hid (show ∃ J, SG w.heap.size g k 120 w f (itP f J s0) w7 from ⟨J + sz.toNat, by rw [itP_add, ← HS2.out.1]; exact hs7⟩)
          clear hs7 HST HLF HSJ
          by_cases hz : sz < 1
          · obtain rfl : gl2 = gl := hnz hz
            clear hnz
            by_cases h0 : gl2 = 0
            · subst h0
              go_wp2_with fail
              refine HLF2.out.mono ?_
              rintro e8 w8 ⟨rfl, rfl⟩
              go_wp2_with fail
              refine HLF2.out.mono ?_
              rintro e9 w9 ⟨rfl, rfl⟩
              go_wp2_with fail
              go_roundw
              case rel => exact ⟨i2 + 1, by omega, by go_num, HPN⟩
              case measure => simp [intOf]; omega
            · have h1 : 1 ≤ gl2 := by omega
              rw [decide_eq_false h0]
              have h2 : ((gl2 : Int) == 0) = false := by simp [h0]
              go_wp2_with fail
              refine HLF2.out.mono ?_
              rintro e8 w8 ⟨rfl, rfl⟩
              go_wp2_with fail
              refine HLF2.out.mono ?_
              rintro e9 w9 ⟨rfl, rfl⟩
              go_wp2_with fail
              go_roundw
              case rel => exact ⟨i2 + 1, by omega, by go_num, HPN⟩
              case measure => simp [intOf]; omega
          · have hz1 : 1 ≤ sz := by omega
            clear hnz hz
            by_cases h0 : gl2 = 0
            · subst h0
              go_wp2_with fail
              refine HLF2.out.mono ?_
              rintro e8 w8 ⟨rfl, rfl⟩
              go_wp2_with fail
              go_roundw
              case rel => exact ⟨i2 + 1, by omega, by go_num, HPN⟩
              case measure => simp [intOf]; omega
            · have h1 : 1 ≤ gl2 := by omega
              rw [decide_eq_false h0]
              have h2 : ((gl2 : Int) == 0) = false := by simp [h0]
              go_wp2_with fail
              refine HLF2.out.mono ?_
              rintro e8 w8 ⟨rfl, rfl⟩
              go_wp2_with fail
              go_roundw
              case rel => exact ⟨i2 + 1, by omega, by go_num, HPN⟩
              case measure => simp [intOf]; omega
        · obtain rfl : i2 = m30 := by omega
          have HP3 := Lib.hid (show ∃ J, 0 ≤ J ∧ SG w.heap.size g k 120 w f (itP f J s0) wr from by
            obtain ⟨J, hJ⟩ := HP.out
            exact ⟨J, Nat.zero_le _, hJ⟩)
          clear HP
          go_wp2_with fail
          go_loopw [14] (fun i wr => ∃ i3 : Nat, i3 ≤ 120 ∧ i = .int .i64 i3 ∧ Hid (∃ J, i3 ≤ J ∧ SG w.heap.size g k 120 w f (itP f J s0) wr)) (fun i _ => 1000 - (intOf i).toNat)
          case atStart => exact ⟨0, by omega, rfl, HP3⟩
          case round =>
            clear HP3
            obtain ⟨i3, hi3, rfl, HP⟩ := hrel
            obtain ⟨J, hJi, hJ⟩ := HP.out
            obtain ⟨r3, hr3⟩ : ∃ r3 : Nat, r3 = i3 % 3 := ⟨_, rfl⟩
            have e3 : (i3 : Int) % 3 = (r3 : Int) := by omega
            have hr3b : r3 < 3 := by omega
            have HST := Lib.hid (hJ.step (by omega) HSF.out (1 + (r3 : Int)) (by omega))
            obtain ⟨s2, hs2⟩ : ∃ s2, s2 = itP f (J + (1 + r3)) s0 := ⟨_, rfl⟩
            have hs2' : itP f (1 + (r3 : Int)).toNat (itP f J s0) = s2 := by
              have hn : (1 + (r3 : Int)).toNat = 1 + r3 := by omega
              rw [hn, hs2]
              exact (itP_add f J (1 + r3) s0).symm
            rw [hs2'] at HST
            have HS2 := Lib.hid hs2
            have HJI := Lib.hid hJi
            clear hJ HP hs2 hs2' hr3 hJi
            go_wp2_with fail
            refine HST.out.mono ?_
            rintro e7 w7 ⟨rfl, hs7⟩
            have HS7 := Lib.hid hs7
            clear hs7 HST
            by_cases hdn : s2.1.length = 0
            · rw [decide_eq_true hdn]
              have HDN := Lib.hid (show s2.1 = [] from List.eq_nil_of_length_eq_zero hdn)
              have HNS := Lib.hid (nodes_c a1 len1 cap1 z1 w7 (R1.out.1.below HS7.out.bel) R1.out.2.2.1 R1.out.2.2.2)
              clear hdn
              go_wp2_with fail
              refine HNS.out.mono ?_
              rintro e8 w8 ⟨a', n', c', rfl, ho8, hb8⟩
              have HRC := Lib.hid (HS7.out.reach HSF.out hb8 ho8 HBD.out (by omega))
              have HS8 := Lib.hid (HS7.out.below hb8)
              clear ho8 hb8 HNS
              go_wp2_with fail
              refine HRC.out.mono ?_
              rintro e9 w9 ⟨j', hj1, av, nv, cv, dv, rfl, ho9, hsr9, hd9, hm9, hb9⟩
              have HS9 := Lib.hid (HS8.out.below hb9)
              have hst : itP f j' (ndsP z1, fun _ => false) = s2 := by
                rw [← HS0E.out] at hj1 ⊢
                have h2 : (itP f (J + (1 + r3)) s0).1 = [] := by rw [← HS2.out]; exact HDN.out
                rw [HS2.out]
                rcases Nat.le_total j' (J + (1 + r3)) with hle | hle
                · exact (itP_done hj1 hle).symm
                · exact itP_done h2 hle
              rw [hst] at hm9
              have HMEM := Lib.hid hm9
              obtain ⟨av', cv', ev, hlc9, hcm9, -, hdr⟩ := ho9.dr hd9
              obtain ⟨ev1, ev2, ev3⟩ := Value.slice.inj ev
              subst ev1
              rw [← ev2] at hdr
              have HNV := Lib.hid ev2
              rw [← ev2] at hlc9
              have hnvb : nv ≤ 9223372036854775807 := by omega
              have HP4 := Lib.hid (show SG w.heap.size g k 120 w f s2 w9 ∧ DR w9 av nv dv from ⟨HS9.out, hdr⟩)
              clear ho9 hsr9 hd9 hm9 hb9 hst hj1 hdr ev ev2 ev3 hlc9 hcm9 HRC HS8 HS7 HS9
              go_wp2_with fail
              go_loopw [96] (fun i wr => ∃ n : Nat, n ≤ 18 ∧ i = .int .u8 n ∧ Hid (SG w.heap.size g k 120 w f s2 wr ∧ DR wr av nv dv)) (fun i _ => 18 - (intOf i).toNat)
              case atStart => exact ⟨0, by omega, rfl, HP4⟩
              case round =>
                clear HP4
                obtain ⟨n, hn, rfl, HP⟩ := hrel
                by_cases hnn : n < 18
                · obtain ⟨nn, hnd⟩ : ∃ nn : List Nat, nn = nd n := ⟨_, rfl⟩
                  have HSN := Lib.hid (show D32 nn from by rw [hnd]; exact d32_nd n)
                  have HND := Lib.hid (show ∀ W, Calls Try.prog 14 #[.int .u8 (n : Int)] W (fun e w' => e = .returned (.agg (cellsOf nn).toArray) ∧ Below W.heap.size W w') from fun W => by rw [hnd]; exact node_c n (by omega) W)
                  have HP5 := Lib.hid (show InI w.heap.size g k w f s2 av nv dv nn 0 (.bool false) wr from ⟨by rw [show isIn nn dv 0 = false from by simp [isIn]], HP.out⟩)
                  clear HP hnd
                  go_wp2_with fail
                  go_loopw [101, 17] (fun i v wr => ∃ j : Nat, j ≤ nv ∧ i = .int .i64 j ∧ Hid (InI w.heap.size g k w f s2 av nv dv nn j v wr)) (fun i _ _ => nv - (intOf i).toNat)
                  case atStart => exact ⟨0, Nat.zero_le _, rfl, HP5⟩
                  case round =>
                    clear HP5
                    obtain ⟨j, hj, rfl, HPI⟩ := hrel
                    obtain ⟨hv17, hp17⟩ := HPI.out
                    subst hv17
                    have HP := Lib.hid hp17
                    clear hp17 HPI
                    obtain ⟨bj, hbj⟩ : ∃ bj, bj = isIn nn dv j := ⟨_, rfl⟩
                    rw [← hbj]
                    have HBJ := Lib.hid (show bj = true ↔ nn ∈ dv.take j from by rw [hbj]; exact decide_eq_true_iff)
                    clear hbj
                    by_cases hjn : j < nv
                    · obtain ⟨b8, o8, ea, hb8, hra⟩ := HP.out.2.at j hjn
                      subst ea
                      obtain ⟨x, hx⟩ : ∃ x, x = dv.getD j [] := ⟨_, rfl⟩
                      have hxm : x ∈ dv := by rw [hx, List.getD_eq_getElem?_getD, List.getElem?_eq_getElem (by rw [HP.out.2.1]; exact hjn)]; exact List.getElem_mem _
                      rw [← hx] at hra
                      have HSX := Lib.hid (HP.out.2.2.1 x hxm)
                      have HXJ := Lib.hid (show dv.take (j + 1) = dv.take j ++ [x] from by
                        have e : x = dv[j]'(by rw [HP.out.2.1]; exact hjn) := by rw [hx, List.getD_eq_getElem?_getD, List.getElem?_eq_getElem (by rw [HP.out.2.1]; exact hjn)]; rfl
                        rw [e]
                        exact List.take_succ_eq_append_getElem _)
                      have hix := fun W => run_dindex dtA W b8 o8 nv cv j hjn
                      have HLD := Lib.hid (run_dload dtA wr b8 (o8 + j * 32) x HSX.out hra)
                      obtain ⟨Y, hY⟩ : ∃ Y, Y = wr.heap.size := ⟨_, rfl⟩
                      clear hra hxm hx hb8
                      go_upto_region 28 with (first | (refine wpList_loadg 42 _ (by rfl) (by rfl) (.pointer (some ⟨b8, o8 + j * 32, none⟩)) (by rfl) (.agg (cellsOf x).toArray) HLD.out ?_) | (refine wpList_store_row (by rfl) 42 _ _ (by rfl) wr.heap.size (cellsOf x).toArray (by rfl) (by rfl) 42 (cellsOf zs32).toArray (by exact heap_new _ _) (infoG HSX.out) (zsizeG HSX.out) (cellsOf_all _) ?_))
                      have K2 := Lib.hid (fun (Z : Obj) (hZ : Z = .cells (cellsOf zs32).toArray 42 (0, 0)) => show Brow ((wr.alloc Z).setRow wr.heap.size (cellsOf x).toArray) wr.heap.size 42 x ∧ Below wr.heap.size wr ((wr.alloc Z).setRow wr.heap.size (cellsOf x).toArray) from by
                        subst hZ
                        exact ⟨(Brow.new wr 42 zs32).setRow, ((Below.refl _ _).alloc (Nat.le_refl _) _).setRow (Nat.le_refl _) _⟩)
                      refine gen_code (F := fun W => Brow W wr.heap.size 42 x ∧ Below wr.heap.size wr W) ⟨(K2.out _ rfl).1, (K2.out _ rfl).2⟩ ?_
                      rintro wB ⟨hxB, hbB⟩
                      rw [← hY] at hxB ⊢
                      obtain ⟨W0, hW0⟩ : ∃ W0, W0 = World.drew wB := ⟨_, rfl⟩
                      have hx0 : W0.heap[Y]? = some (.cells (cellsOf x).toArray 42 (0, 0)) := by rw [hW0]; exact hxB
                      have HB0 := Lib.hid (show Below wr.heap.size wr W0 from by rw [hW0]; exact hbB.trans (below_drewN' _ wB 1))
                      have HS := Lib.hid (show Below W0.heap.size W0 W0 from Below.refl _ _)
                      have HX := Lib.hid hx0
                      have HL1 := Lib.hid (fun (W : World) (hW : Below W0.heap.size W0 W) => run_cell_dig W Y x HSX.out ((hW.block Y (Array.getElem?_eq_some_iff.1 HX.out).1).trans HX.out))
                      have HEQ := Lib.hid (fun W => eq_dig 42 32 Try.underlying42 W x nn HSX.out.1 HSN.out.1 HSX.out.2 HSN.out.2)
                      have HGT := Lib.hid (show Try.prog.eqGuardType Try.prog.depth 42 = false by kernel_rfl)
                      clear K2 hxB hbB hY HLD hix hx0
                      cases bj with
                      | true =>
                        have HIN := Lib.hid (show nn ∈ dv.take (j + 1) from by rw [HXJ.out]; exact List.mem_append_left _ (HBJ.out.1 rfl))
                        refine anyH_begin (S := fun W => Below W0.heap.size W0 W) (by kernel_rfl) ?_
                        rw [← hW0]
                        clear hW0
                        refine anyH_pureG 0 (d := 105) (op := .move (.tmp 17)) (gd := none) (.bool true) (by rfl) (fun o ho => wanted_plain ho _) (by kernel_rfl) (by kernel_rfl) (by kernel_rfl) (fun _ _ _ h => h) (fun o ho W hW => by unfold execOp; simp only [ho]; go_simp) HS.out ?_
                        simp only [Act.put, List.setIfInBounds_toArray, List.set_cons_zero, List.set_cons_succ]
                        refine anyH_pureG 1 (d := 106) (op := .move (.tmp 105)) (gd := none) (.bool true) (by rfl) (fun o ho => wanted_plain ho _) (by kernel_rfl) (by kernel_rfl) (by kernel_rfl) (fun _ _ _ h => h) (fun o ho W hW => by unfold execOp; simp only [ho]; go_simp) HS.out ?_
                        simp only [Act.put, List.setIfInBounds_toArray, List.set_cons_zero, List.set_cons_succ]
                        refine anyH_skip 2 (d := 107) (op := .load 42 (.tmp 19)) (gd := some (1, false)) (by rfl) (fun o ho => by simp only [Region.wanted, ho]; rfl) (by kernel_rfl) (by kernel_rfl) (by kernel_rfl) (fun _ _ _ h => h) HS.out ?_
                        simp only [Act.put, List.setIfInBounds_toArray, List.set_cons_zero, List.set_cons_succ]
                        refine anyH_skip 3 (d := 108) (op := .move (.tmp 16)) (gd := some (1, false)) (by rfl) (fun o ho => by simp only [Region.wanted, ho]; rfl) (by kernel_rfl) (by kernel_rfl) (by kernel_rfl) (fun _ _ _ h => h) HS.out ?_
                        simp only [Act.put, List.setIfInBounds_toArray, List.set_cons_zero, List.set_cons_succ]
                        refine anyH_skip 4 (d := 109) (op := .call { callee := .value (.func 14), args := #[(.tmp 108)], argTypes := #[5] }) (gd := some (1, false)) (by rfl) (fun o ho => by simp only [Region.wanted, ho]; rfl) (by kernel_rfl) (by kernel_rfl) (by kernel_rfl) (fun _ _ _ h => h) HS.out ?_
                        simp only [Act.put, List.setIfInBounds_toArray, List.set_cons_zero, List.set_cons_succ]
                        refine anyH_skip 5 (d := 110) (op := .binOp .eql 42 (.tmp 107) (.tmp 109) 42) (gd := some (1, false)) (by rfl) (fun o ho => by simp only [Region.wanted, ho]; rfl) (by kernel_rfl) (by kernel_rfl) (by kernel_rfl) (fun _ _ _ h => h) HS.out ?_
                        simp only [Act.put, List.setIfInBounds_toArray, List.set_cons_zero, List.set_cons_succ]
                        refine anyH_pureG 6 (d := 111) (op := .pick (.tmp 106) (.const (.bool true)) (.tmp 110)) (gd := none) (.bool true) (by rfl) (fun o ho => wanted_plain ho _) (by kernel_rfl) (by kernel_rfl) (by kernel_rfl) (fun _ _ _ h => h) (fun o ho W hW => by unfold execOp; simp only [ho]; go_simp) HS.out ?_
                        simp only [Act.put, List.setIfInBounds_toArray, List.set_cons_zero, List.set_cons_succ]
                        refine anyH_pureG 7 (d := 17) (op := .assign (.tmp 111)) (gd := none) (.bool true) (by rfl) (fun o ho => wanted_plain ho _) (by kernel_rfl) (by kernel_rfl) (by kernel_rfl) (fun _ _ _ h => h) (fun o ho W hW => by unfold execOp; simp only [ho]; go_simp) HS.out ?_
                        simp only [Act.put, List.setIfInBounds_toArray, List.set_cons_zero, List.set_cons_succ]
                        refine wpAnyH_done (by kernel_rfl) ?_ _
                        have HPN := Lib.hid (show InI w.heap.size g k w f s2 (some ⟨b8, o8, none⟩) nv dv nn (j + 1) (.bool true) W0 from ⟨by rw [show isIn nn dv (j + 1) = true from decide_eq_true HIN.out], HP.out.1.below HB0.out, HP.out.2.below HB0.out⟩)
                        clear HL1 HS HX HP HEQ
                        go_wp2_with fail
                        go_roundw
                        case rel => exact ⟨_, _, _, ⟨j + 1, by omega, rfl, HPN⟩, rfl, rfl, by go_num⟩
                        case measure => simp [intOf]; omega
                      | false =>
                        have HNI := Lib.hid (show nn ∉ dv.take j from fun e => by have := HBJ.out.2 e; cases this)
                        refine anyH_begin (S := fun W => Below W0.heap.size W0 W) (by kernel_rfl) ?_
                        rw [← hW0]
                        clear hW0
                        refine anyH_pureG 0 (d := 105) (op := .move (.tmp 17)) (gd := none) (.bool false) (by rfl) (fun o ho => wanted_plain ho _) (by kernel_rfl) (by kernel_rfl) (by kernel_rfl) (fun _ _ _ h => h) (fun o ho W hW => by unfold execOp; simp only [ho]; go_simp) HS.out ?_
                        simp only [Act.put, List.setIfInBounds_toArray, List.set_cons_zero, List.set_cons_succ]
                        refine anyH_pureG 1 (d := 106) (op := .move (.tmp 105)) (gd := none) (.bool false) (by rfl) (fun o ho => wanted_plain ho _) (by kernel_rfl) (by kernel_rfl) (by kernel_rfl) (fun _ _ _ h => h) (fun o ho W hW => by unfold execOp; simp only [ho]; go_simp) HS.out ?_
                        simp only [Act.put, List.setIfInBounds_toArray, List.set_cons_zero, List.set_cons_succ]
                        refine anyH_loadG 2 (d := 107) (ty := 42) (x := (.tmp 19)) (gd := some (1, false)) (p := .pointer (some ⟨Y, 0, none⟩)) (.agg (cellsOf x).toArray) (by rfl) (fun o ho => by simp only [Region.wanted, ho]; rfl) (by kernel_rfl) (by kernel_rfl) (by kernel_rfl) (fun _ _ _ h => h) (by rfl) HL1.out HS.out ?_
                        simp only [Act.put, List.setIfInBounds_toArray, List.set_cons_zero, List.set_cons_succ]
                        refine anyH_pureG 3 (d := 108) (op := .move (.tmp 16)) (gd := some (1, false)) (.int .u8 (n : Int)) (by rfl) (fun o ho => by simp only [Region.wanted, ho]; rfl) (by kernel_rfl) (by kernel_rfl) (by kernel_rfl) (fun _ _ _ h => h) (fun o ho W hW => by unfold execOp; simp only [ho]; go_simp) HS.out ?_
                        simp only [Act.put, List.setIfInBounds_toArray, List.set_cons_zero, List.set_cons_succ]
                        refine anyH_callG 4 (d := some 109) (f := 14) (xs := #[(.tmp 108)]) (ts := #[5]) (gd := some (1, false)) (vs := #[.int .u8 (n : Int)]) (by kernel_rfl) (by rfl) (fun o ho => by simp only [Region.wanted, ho]; rfl) (by go_simp) (by go_simp) (HND.out W0) ?_
                        rintro e9 w9 ⟨rfl, hb9⟩
                        have HS9 := Lib.hid (show Below W0.heap.size W0 w9 from hb9)
                        clear hb9
                        refine ⟨_, rfl, HS9.out, fun hS => ?_⟩
                        clear hS
                        simp only [Act.put, List.setIfInBounds_toArray, List.set_cons_zero, List.set_cons_succ]
                        refine anyH_eqG 5 (d := 110) (t := 42) (t' := 42) (x := (.tmp 107)) (y := (.tmp 109)) (gd := some (1, false)) ((cellsOf x).toArray) ((cellsOf nn).toArray) (decide (x = nn)) (by rfl) (fun o ho => by simp only [Region.wanted, ho]; rfl) (by kernel_rfl) (by kernel_rfl) (by kernel_rfl) (fun _ _ _ h => h) (by rfl) (by rfl) HGT.out HEQ.out HS9.out ?_
                        simp only [Act.put, List.setIfInBounds_toArray, List.set_cons_zero, List.set_cons_succ]
                        refine anyH_pureG 6 (d := 111) (op := .pick (.tmp 106) (.const (.bool true)) (.tmp 110)) (gd := none) (.bool (decide (x = nn))) (by rfl) (fun o ho => wanted_plain ho _) (by kernel_rfl) (by kernel_rfl) (by kernel_rfl) (fun _ _ _ h => h) (fun o ho W hW => by unfold execOp; simp only [ho]; go_simp) HS9.out ?_
                        simp only [Act.put, List.setIfInBounds_toArray, List.set_cons_zero, List.set_cons_succ]
                        refine anyH_pureG 7 (d := 17) (op := .assign (.tmp 111)) (gd := none) (.bool (decide (x = nn))) (by rfl) (fun o ho => wanted_plain ho _) (by kernel_rfl) (by kernel_rfl) (by kernel_rfl) (fun _ _ _ h => h) (fun o ho W hW => by unfold execOp; simp only [ho]; go_simp) HS9.out ?_
                        simp only [Act.put, List.setIfInBounds_toArray, List.set_cons_zero, List.set_cons_succ]
                        refine wpAnyH_done (by kernel_rfl) ?_ _
                        have HB9 := Lib.hid (HB0.out.trans (HS9.out.mono HB0.out.size))
                        have HII := Lib.hid (show isIn nn dv (j + 1) = decide (x = nn) from by
                          unfold isIn
                          refine decide_eq_decide.2 ?_
                          rw [HXJ.out]
                          simp only [List.mem_append, List.mem_singleton]
                          exact ⟨fun e => e.elim (fun h => absurd h HNI.out) Eq.symm, fun e => .inr e.symm⟩)
                        have HPN := Lib.hid (show InI w.heap.size g k w f s2 (some ⟨b8, o8, none⟩) nv dv nn (j + 1) (.bool (decide (x = nn))) w9 from ⟨by rw [HII.out], HP.out.1.below HB9.out, HP.out.2.below HB9.out⟩)
                        clear HII
                        clear HL1 HS HX HP HEQ HS9 HB9
                        go_wp2_with fail
                        go_roundw
                        case rel => rw [decide_eq_true (show (n : Int) < 18 by omega)]; exact ⟨_, _, _, _, _, _, _, _, _, _, _, _, _, _, ⟨j + 1, by omega, (show Value.int .i64 ((j : Int) + 1) = .int .i64 ((j + 1 : Nat) : Int) from by go_num), HPN⟩, rfl⟩
                        case measure => simp [intOf]; omega
                    · obtain rfl : j = nv := by omega
                      have hbj : bj = s2.2 nn := by
                        have h1 := HBJ.out
                        rw [HNV.out, List.take_length] at h1
                        have h2 := HMEM.out nn HSN.out
                        cases hb : s2.2 nn with
                        | true => exact h1.2 (h2.2 hb)
                        | false =>
                          cases bj with
                          | false => rfl
                          | true =>
                            have := h2.1 (h1.1 rfl)
                            rw [hb] at this
                            cases this
                      have HPO := HP
                      subst hbj
                      clear HP
                      go_wp2_with fail
                      refine (HND.out _).mono ?_
                      rintro e10 w10 ⟨rfl, hb10⟩
                      have HP10 := Lib.hid (show SG w.heap.size g k 120 w f s2 w10 ∧ DR w10 av j dv from ⟨HPO.out.1.below hb10, HPO.out.2.below hb10⟩)
                      have HMK := Lib.hid (HP10.out.1.marked HSN.out)
                      clear hb10 HPO
                      go_wp2_with fail
                      refine HMK.out.mono ?_
                      rintro e11 w11 ⟨rfl, hb11⟩
                      have HPN := Lib.hid (show SG w.heap.size g k 120 w f s2 w11 ∧ DR w11 av j dv from ⟨HP10.out.1.below hb11, HP10.out.2.below hb11⟩)
                      clear hb11 HP10 HMK
                      cases hbb : s2.2 nn with
                      | true =>
                        go_wp2_with fail
                        go_roundw
                        case rel => exact ⟨n + 1, by omega, by go_num, HPN⟩
                        case measure => simp [intOf]; omega
                      | false =>
                        go_wp2_with fail
                        go_roundw
                        case rel => exact ⟨n + 1, by omega, by go_num, HPN⟩
                        case measure => simp [intOf]; omega
                · obtain rfl : n = 18 := by omega
                  have HLF := Lib.hid (show Calls Try.prog 13 #[.pointer (some ⟨k, 0, none⟩)] wr fun e w' => e = .returned (.int .i64 0) ∧ w' = wr from by
                    have := HP.out.1.left
                    rw [HDN.out] at this
                    exact this)
                  have HBE := Lib.hid HP.out.1.bel
                  clear HP
                  go_wp2_with fail
                  refine HLF.out.mono ?_
                  rintro e12 w12 ⟨rfl, rfl⟩
                  go_wp2_with fail
                  go_ret
                  exact ⟨rfl, HBE.out⟩
            · rw [decide_eq_false hdn]
              have hlt : J + (1 + r3) < 120 := by
                by_cases hge : J + (1 + r3) < 120
                · exact hge
                · exfalso
                  have hd : ∀ d ∈ ndsP z1, D32 d := ndsP_d32 z1
                  have h1 := bd_done HSF.out 120 (ndsP z1) (fun _ => false) hd HBD.out
                  rw [← HS0E.out] at h1
                  have h2 := itP_done h1 (show 120 ≤ J + (1 + r3) by omega)
                  rw [← HS2.out] at h2
                  rw [h2, h1] at hdn
                  exact hdn rfl
              have HPN := Lib.hid (show ∃ J, i3 + 1 ≤ J ∧ SG w.heap.size g k 120 w f (itP f J s0) w7 from ⟨J + (1 + r3), by have := HJI.out; omega, by rw [← HS2.out]; exact HS7.out⟩)
              have hi3b : i3 + 1 ≤ 120 := by have := HJI.out; omega
              clear HS7 hdn
              go_wp2_with fail
              go_roundw
              case rel => exact ⟨i3 + 1, hi3b, by go_num, HPN⟩
              case measure => simp [intOf]; omega
end Go.Proofs.Ytpppffgchgcghaa
