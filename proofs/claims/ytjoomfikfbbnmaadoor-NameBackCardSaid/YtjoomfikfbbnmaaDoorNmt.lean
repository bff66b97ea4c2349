/-
  The walk over the law of two names with a stroke between.
-/
import Derived.Test.YtjoomfikfbbnmaaDoorNme
namespace Go.Proofs.YtjoomfikfbbnmaaDoor
set_option linter.unusedVariables false
open Go.RowKit Go.Proofs.Nm
theorem repoB_c (l : List UInt8) (w : World) (hl : l.length ≤ 140737488351232) (b : Bool) (hb : repoB l = b) :
    Calls Tryd.prog 11 #[.string (T l)] w fun e w' => e = .returned (.bool b) ∧ Below w.heap.size w w' := by
  rw [← hb]
  exact repo_c l w hl
set_option maxRecDepth 100000 in
set_option maxHeartbeats 4000000 in
theorem parts7_l (a b : List UInt8) (w : World) (hl : a.length ≤ 140737488351232) (hl2 : b.length ≤ 140737488351232) :
    Calls Tryd.prog 6 #[.string (T a), .string (T b)] w fun e w' => e = .returned (.bool true) ∧ Below w.heap.size w w' := by
  cases hA : repoB a with
  | false =>
    have HA := Lib.hid (fun W => repoB_c a W hl false hA)
    clear hA
    go_enter Tryd.func6, Tryd.ntmps6
    go_wp2_with (first | (go_at_call 10; (refine (awake7_c _).mono ?_); rintro e w1 ⟨rfl, h⟩; have HB1 := Lib.hid h; clear h) | (go_at_call 11; (refine (HA.out _).mono ?_); rintro e w2 ⟨rfl, h⟩; have HB2 := Lib.hid h; clear h))
    have HB := Lib.hid (HB2.out.trans (HB1.out.mono HB2.out.size))
    clear HB1 HB2
    go_loopw [41] (fun i wr => ∃ k : Nat, k ≤ a.length ∧ i = .int .i64 k ∧ Hid (Below w.heap.size w wr)) (fun i _ => a.length - (intOf i).toNat)
    case atStart => exact ⟨0, Nat.zero_le _, rfl, HB⟩
    case round =>
      clear HB
      obtain ⟨k, hk, rfl, HB⟩ := hrel
      by_cases hlt : k < a.length
      · go_wp2_with (go_at_call 11; (refine (HA.out _).mono ?_); rintro e w3 ⟨rfl, h⟩; have HB3 := Lib.hid h; clear h)
        go_roundw
        case rel => exact ⟨k + 1, by omega, by go_num, Lib.hid (HB.out.trans (HB3.out.mono HB.out.size))⟩
        case measure => simp [intOf]; omega
      · obtain rfl : k = a.length := by omega
        go_wp2
        go_ret
        exact ⟨rfl, HB.out⟩
  | true =>
    have HRA := Lib.hid hA
    have HA := Lib.hid (fun W => repoB_c a W hl true hA)
    have ha128 : a.length ≤ 128 := by have := hA; unfold repoB at this; simp at this; omega
    clear hA
    cases hB : repoB b with
    | false =>
      have HBB := Lib.hid (fun W => repoB_c b W hl2 false hB)
      clear hB
      go_enter Tryd.func6, Tryd.ntmps6
      go_wp2_with (first | (go_at_call 10; (refine (awake7_c _).mono ?_); rintro e wa ⟨rfl, h⟩; have HBa := Lib.hid h; clear h) | (go_at_call 11; (first | ((with_reducible refine (HA.out _).mono ?_); rintro e w1 ⟨rfl, h⟩; have HB1 := Lib.hid h; clear h) | ((with_reducible refine (HBB.out _).mono ?_); rintro e w2 ⟨rfl, h⟩; have HB2 := Lib.hid h; clear h))))
      have HB := Lib.hid ((HB1.out.trans (HB2.out.mono HB1.out.size)).trans (HBa.out.mono (Nat.le_trans HB1.out.size HB2.out.size)))
      clear HBa HB1 HB2
      go_loopw [41] (fun i wr => ∃ k : Nat, k ≤ a.length ∧ i = .int .i64 k ∧ Hid (Below w.heap.size w wr)) (fun i _ => a.length - (intOf i).toNat)
      case atStart => exact ⟨0, Nat.zero_le _, rfl, HB⟩
      case round =>
        clear HB
        obtain ⟨k, hk, rfl, HB⟩ := hrel
        by_cases hlt : k < a.length
        · obtain ⟨c, hc⟩ : ∃ c, a[k]? = some c := ⟨_, List.getElem?_eq_getElem hlt⟩
          have HI := idxS a k c hc
          unfold IdxS at HI
          by_cases h47 : (c.toNat : Int) = 47
          · have hc47 : c = 47 := UInt8.toNat_inj.1 (Int.natCast_inj.1 h47)
            clear h47
            subst hc47
            have HI : ∀ W : World, (Instr.index 9 (.string (T a)) (.int .i64 (k : Int))).run Tryd.prog W = .ok (.int .u8 47) W := HI
            obtain ⟨g1, g2⟩ := repoB_cut a k HRA.out hc
            have HC1 := Lib.hid (fun W => repoB_c (a.take k) W (by simp; omega) true g1)
            have HC2 := Lib.hid (fun W => repoB_c (a.drop (k + 1)) W (by simp; omega) true g2)
            have hX1 : (T a).extract 0 k = T (a.take k) := T_eq (by rw [Lib.extract_data]; simp)
            have hz : (T a).size = a.length := by simp [ByteArray.size]
            have hX2 : (T a).extract (k + 1) a.length = T (a.drop (k + 1)) := T_eq (by rw [← hz, Lib.extract_to_end])
            have hX3 : (T a).extract (k + 1) (T a).size = T (a.drop (k + 1)) := T_eq (by rw [Lib.extract_to_end])
            clear hc g1 g2 hz
            go_wp2_with (go_at_call 11; (first | ((with_reducible refine (HA.out _).mono ?_); rintro e w3 ⟨rfl, h⟩; have HB3 := Lib.hid h; clear h) | ((with_reducible refine (HC1.out _).mono ?_); rintro e w4 ⟨rfl, h⟩; have HB4 := Lib.hid h; clear h) | ((with_reducible refine (HC2.out _).mono ?_); rintro e w5 ⟨rfl, h⟩; have HB5 := Lib.hid h; clear h)))
            go_roundw
            case rel => exact ⟨k + 1, by omega, by go_num, Lib.hid ((HB.out.trans (HB3.out.mono HB.out.size)).trans ((HB4.out.trans (HB5.out.mono HB4.out.size)).mono (Nat.le_trans HB.out.size HB3.out.size)))⟩
            case measure => simp [intOf]; omega
          · have hx : ((c.toNat : Int) == 47) = false := by simpa using h47
            clear h47 hc
            go_wp2_with (go_at_call 11; (refine (HA.out _).mono ?_); rintro e w3 ⟨rfl, h⟩; have HB3 := Lib.hid h; clear h)
            go_roundw
            case rel => exact ⟨k + 1, by omega, by go_num, Lib.hid (HB.out.trans (HB3.out.mono HB.out.size))⟩
            case measure => simp [intOf]; omega
        · obtain rfl : k = a.length := by omega
          go_wp2
          go_ret
          exact ⟨rfl, HB.out⟩

    | true =>
      have HBB := Lib.hid (fun W => repoB_c b W hl2 true hB)
      by_cases h1 : a.length < 128
      · have h1' : (a.length : Int) < 128 := by omega
        by_cases h2 : b.length + a.length < 128
        · have h2' : (b.length : Int) < 128 - (a.length : Int) := by omega
          have HJ := Lib.hid (fun W => repoB_c (a ++ 47 :: b) W (by simp; omega) true (repoB_join a b HRA.out hB (by omega)))
          have hJ1 : T a ++ ⟨#[47]⟩ ++ T b = T (a ++ 47 :: b) := by
            apply ByteArray.ext
            simp
          clear hB h1 h2
          go_enter Tryd.func6, Tryd.ntmps6
          go_wp2_with (first | (go_at_call 10; (refine (awake7_c _).mono ?_); rintro e wa ⟨rfl, h⟩; have HBa := Lib.hid h; clear h) | (go_at_call 11; (first | ((with_reducible refine (HA.out _).mono ?_); rintro e w1 ⟨rfl, h⟩; have HB1 := Lib.hid h; clear h) | ((with_reducible refine (HBB.out _).mono ?_); rintro e w2 ⟨rfl, h⟩; have HB2 := Lib.hid h; clear h) | ((with_reducible refine (HJ.out _).mono ?_); rintro e w6 ⟨rfl, h⟩; have HB6 := Lib.hid h; clear h))))
          have HB := Lib.hid (((HB1.out.trans (HB2.out.mono HB1.out.size)).trans (HBa.out.mono (Nat.le_trans HB1.out.size HB2.out.size))).trans (HB6.out.mono (Nat.le_trans (Nat.le_trans HB1.out.size HB2.out.size) HBa.out.size)))
          clear HBa HB1 HB2 HB6
          go_loopw [41] (fun i wr => ∃ k : Nat, k ≤ a.length ∧ i = .int .i64 k ∧ Hid (Below w.heap.size w wr)) (fun i _ => a.length - (intOf i).toNat)
          case atStart => exact ⟨0, Nat.zero_le _, rfl, HB⟩
          case round =>
            clear HB
            obtain ⟨k, hk, rfl, HB⟩ := hrel
            by_cases hlt : k < a.length
            · obtain ⟨c, hc⟩ : ∃ c, a[k]? = some c := ⟨_, List.getElem?_eq_getElem hlt⟩
              have HI := idxS a k c hc
              unfold IdxS at HI
              by_cases h47 : (c.toNat : Int) = 47
              · have hc47 : c = 47 := UInt8.toNat_inj.1 (Int.natCast_inj.1 h47)
                clear h47
                subst hc47
                have HI : ∀ W : World, (Instr.index 9 (.string (T a)) (.int .i64 (k : Int))).run Tryd.prog W = .ok (.int .u8 47) W := HI
                obtain ⟨g1, g2⟩ := repoB_cut a k HRA.out hc
                have HC1 := Lib.hid (fun W => repoB_c (a.take k) W (by simp; omega) true g1)
                have HC2 := Lib.hid (fun W => repoB_c (a.drop (k + 1)) W (by simp; omega) true g2)
                have hX1 : (T a).extract 0 k = T (a.take k) := T_eq (by rw [Lib.extract_data]; simp)
                have hz : (T a).size = a.length := by simp [ByteArray.size]
                have hX2 : (T a).extract (k + 1) a.length = T (a.drop (k + 1)) := T_eq (by rw [← hz, Lib.extract_to_end])
                have hX3 : (T a).extract (k + 1) (T a).size = T (a.drop (k + 1)) := T_eq (by rw [Lib.extract_to_end])
                clear hc g1 g2 hz
                go_wp2_with (go_at_call 11; (first | ((with_reducible refine (HA.out _).mono ?_); rintro e w3 ⟨rfl, h⟩; have HB3 := Lib.hid h; clear h) | ((with_reducible refine (HC1.out _).mono ?_); rintro e w4 ⟨rfl, h⟩; have HB4 := Lib.hid h; clear h) | ((with_reducible refine (HC2.out _).mono ?_); rintro e w5 ⟨rfl, h⟩; have HB5 := Lib.hid h; clear h)))
                go_roundw
                case rel => exact ⟨k + 1, by omega, by go_num, Lib.hid ((HB.out.trans (HB3.out.mono HB.out.size)).trans ((HB4.out.trans (HB5.out.mono HB4.out.size)).mono (Nat.le_trans HB.out.size HB3.out.size)))⟩
                case measure => simp [intOf]; omega
              · have hx : ((c.toNat : Int) == 47) = false := by simpa using h47
                clear h47 hc
                go_wp2_with (go_at_call 11; (refine (HA.out _).mono ?_); rintro e w3 ⟨rfl, h⟩; have HB3 := Lib.hid h; clear h)
                go_roundw
                case rel => exact ⟨k + 1, by omega, by go_num, Lib.hid (HB.out.trans (HB3.out.mono HB.out.size))⟩
                case measure => simp [intOf]; omega
            · obtain rfl : k = a.length := by omega
              go_wp2
              go_ret
              exact ⟨rfl, HB.out⟩

        · have h2' : 128 - (a.length : Int) ≤ (b.length : Int) := by omega
          clear hB h1 h2
          go_enter Tryd.func6, Tryd.ntmps6
          go_wp2_with (first | (go_at_call 10; (refine (awake7_c _).mono ?_); rintro e wa ⟨rfl, h⟩; have HBa := Lib.hid h; clear h) | (go_at_call 11; (first | ((with_reducible refine (HA.out _).mono ?_); rintro e w1 ⟨rfl, h⟩; have HB1 := Lib.hid h; clear h) | ((with_reducible refine (HBB.out _).mono ?_); rintro e w2 ⟨rfl, h⟩; have HB2 := Lib.hid h; clear h))))
          have HB := Lib.hid ((HB1.out.trans (HB2.out.mono HB1.out.size)).trans (HBa.out.mono (Nat.le_trans HB1.out.size HB2.out.size)))
          clear HBa HB1 HB2
          go_loopw [41] (fun i wr => ∃ k : Nat, k ≤ a.length ∧ i = .int .i64 k ∧ Hid (Below w.heap.size w wr)) (fun i _ => a.length - (intOf i).toNat)
          case atStart => exact ⟨0, Nat.zero_le _, rfl, HB⟩
          case round =>
            clear HB
            obtain ⟨k, hk, rfl, HB⟩ := hrel
            by_cases hlt : k < a.length
            · obtain ⟨c, hc⟩ : ∃ c, a[k]? = some c := ⟨_, List.getElem?_eq_getElem hlt⟩
              have HI := idxS a k c hc
              unfold IdxS at HI
              by_cases h47 : (c.toNat : Int) = 47
              · have hc47 : c = 47 := UInt8.toNat_inj.1 (Int.natCast_inj.1 h47)
                clear h47
                subst hc47
                have HI : ∀ W : World, (Instr.index 9 (.string (T a)) (.int .i64 (k : Int))).run Tryd.prog W = .ok (.int .u8 47) W := HI
                obtain ⟨g1, g2⟩ := repoB_cut a k HRA.out hc
                have HC1 := Lib.hid (fun W => repoB_c (a.take k) W (by simp; omega) true g1)
                have HC2 := Lib.hid (fun W => repoB_c (a.drop (k + 1)) W (by simp; omega) true g2)
                have hX1 : (T a).extract 0 k = T (a.take k) := T_eq (by rw [Lib.extract_data]; simp)
                have hz : (T a).size = a.length := by simp [ByteArray.size]
                have hX2 : (T a).extract (k + 1) a.length = T (a.drop (k + 1)) := T_eq (by rw [← hz, Lib.extract_to_end])
                have hX3 : (T a).extract (k + 1) (T a).size = T (a.drop (k + 1)) := T_eq (by rw [Lib.extract_to_end])
                clear hc g1 g2 hz
                go_wp2_with (go_at_call 11; (first | ((with_reducible refine (HA.out _).mono ?_); rintro e w3 ⟨rfl, h⟩; have HB3 := Lib.hid h; clear h) | ((with_reducible refine (HC1.out _).mono ?_); rintro e w4 ⟨rfl, h⟩; have HB4 := Lib.hid h; clear h) | ((with_reducible refine (HC2.out _).mono ?_); rintro e w5 ⟨rfl, h⟩; have HB5 := Lib.hid h; clear h)))
                go_roundw
                case rel => exact ⟨k + 1, by omega, by go_num, Lib.hid ((HB.out.trans (HB3.out.mono HB.out.size)).trans ((HB4.out.trans (HB5.out.mono HB4.out.size)).mono (Nat.le_trans HB.out.size HB3.out.size)))⟩
                case measure => simp [intOf]; omega
              · have hx : ((c.toNat : Int) == 47) = false := by simpa using h47
                clear h47 hc
                go_wp2_with (go_at_call 11; (refine (HA.out _).mono ?_); rintro e w3 ⟨rfl, h⟩; have HB3 := Lib.hid h; clear h)
                go_roundw
                case rel => exact ⟨k + 1, by omega, by go_num, Lib.hid (HB.out.trans (HB3.out.mono HB.out.size))⟩
                case measure => simp [intOf]; omega
            · obtain rfl : k = a.length := by omega
              go_wp2
              go_ret
              exact ⟨rfl, HB.out⟩

      · have h1' : 128 ≤ (a.length : Int) := by omega
        clear hB h1
        go_enter Tryd.func6, Tryd.ntmps6
        go_wp2_with (first | (go_at_call 10; (refine (awake7_c _).mono ?_); rintro e wa ⟨rfl, h⟩; have HBa := Lib.hid h; clear h) | (go_at_call 11; (first | ((with_reducible refine (HA.out _).mono ?_); rintro e w1 ⟨rfl, h⟩; have HB1 := Lib.hid h; clear h) | ((with_reducible refine (HBB.out _).mono ?_); rintro e w2 ⟨rfl, h⟩; have HB2 := Lib.hid h; clear h))))
        have HB := Lib.hid ((HB1.out.trans (HB2.out.mono HB1.out.size)).trans (HBa.out.mono (Nat.le_trans HB1.out.size HB2.out.size)))
        clear HBa HB1 HB2
        go_loopw [41] (fun i wr => ∃ k : Nat, k ≤ a.length ∧ i = .int .i64 k ∧ Hid (Below w.heap.size w wr)) (fun i _ => a.length - (intOf i).toNat)
        case atStart => exact ⟨0, Nat.zero_le _, rfl, HB⟩
        case round =>
          clear HB
          obtain ⟨k, hk, rfl, HB⟩ := hrel
          by_cases hlt : k < a.length
          · obtain ⟨c, hc⟩ : ∃ c, a[k]? = some c := ⟨_, List.getElem?_eq_getElem hlt⟩
            have HI := idxS a k c hc
            unfold IdxS at HI
            by_cases h47 : (c.toNat : Int) = 47
            · have hc47 : c = 47 := UInt8.toNat_inj.1 (Int.natCast_inj.1 h47)
              clear h47
              subst hc47
              have HI : ∀ W : World, (Instr.index 9 (.string (T a)) (.int .i64 (k : Int))).run Tryd.prog W = .ok (.int .u8 47) W := HI
              obtain ⟨g1, g2⟩ := repoB_cut a k HRA.out hc
              have HC1 := Lib.hid (fun W => repoB_c (a.take k) W (by simp; omega) true g1)
              have HC2 := Lib.hid (fun W => repoB_c (a.drop (k + 1)) W (by simp; omega) true g2)
              have hX1 : (T a).extract 0 k = T (a.take k) := T_eq (by rw [Lib.extract_data]; simp)
              have hz : (T a).size = a.length := by simp [ByteArray.size]
              have hX2 : (T a).extract (k + 1) a.length = T (a.drop (k + 1)) := T_eq (by rw [← hz, Lib.extract_to_end])
              have hX3 : (T a).extract (k + 1) (T a).size = T (a.drop (k + 1)) := T_eq (by rw [Lib.extract_to_end])
              clear hc g1 g2 hz
              go_wp2_with (go_at_call 11; (first | ((with_reducible refine (HA.out _).mono ?_); rintro e w3 ⟨rfl, h⟩; have HB3 := Lib.hid h; clear h) | ((with_reducible refine (HC1.out _).mono ?_); rintro e w4 ⟨rfl, h⟩; have HB4 := Lib.hid h; clear h) | ((with_reducible refine (HC2.out _).mono ?_); rintro e w5 ⟨rfl, h⟩; have HB5 := Lib.hid h; clear h)))
              go_roundw
              case rel => exact ⟨k + 1, by omega, by go_num, Lib.hid ((HB.out.trans (HB3.out.mono HB.out.size)).trans ((HB4.out.trans (HB5.out.mono HB4.out.size)).mono (Nat.le_trans HB.out.size HB3.out.size)))⟩
              case measure => simp [intOf]; omega
            · have hx : ((c.toNat : Int) == 47) = false := by simpa using h47
              clear h47 hc
              go_wp2_with (go_at_call 11; (refine (HA.out _).mono ?_); rintro e w3 ⟨rfl, h⟩; have HB3 := Lib.hid h; clear h)
              go_roundw
              case rel => exact ⟨k + 1, by omega, by go_num, Lib.hid (HB.out.trans (HB3.out.mono HB.out.size))⟩
              case measure => simp [intOf]; omega
          · obtain rfl : k = a.length := by omega
            go_wp2
            go_ret
            exact ⟨rfl, HB.out⟩

theorem parts7_c (a b : ByteArray) (w : World) (ha : a.size ≤ 140737488351232) (hb : b.size ≤ 140737488351232) :
    Calls Tryd.prog 6 #[.string a, .string b] w fun e w' => e = .returned (.bool true) ∧ Below w.heap.size w w' :=
  parts7_l a.data.toList b.data.toList w ha hb
end Go.Proofs.YtjoomfikfbbnmaaDoor
