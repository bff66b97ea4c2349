/-
  The walk over the document's media types.
-/
import Derived.Test.YtjoomfikfbbnmaaDoorNmw
namespace Go.Proofs.YtjoomfikfbbnmaaDoor
set_option linter.unusedVariables false
open Go.RowKit Go.Proofs.Nm
/-! the document's media types -/
def idx9 (j : Nat) : UInt8 := [33, 35, 36, 38, 45, 94, 95, 46, 43].getD j 0
/-- the inner loop: whether the byte is one of those from place j on -/
def moreI (c : UInt8) (j : Nat) : Bool := (([33, 35, 36, 38, 45, 94, 95, 46, 43] : List UInt8).drop j).any (fun d => decide ((c.toNat : Int) = (d.toNat : Int)))
theorem moreI_all (c : UInt8) : moreI c 0 = moreB c := by
  have q : ∀ x : UInt8, decide ((c.toNat : Int) = (x.toNat : Int)) = (c == x) := fun x => by
    rw [Bool.eq_iff_iff, beq_iff_eq, decide_eq_true_iff, Int.natCast_inj]; exact UInt8.toNat_inj
  unfold moreI moreB
  rw [List.drop_zero, List.contains_eq_any_beq]
  congr 1
  funext x
  exact q x
theorem moreI_step (c : UInt8) (j : Nat) (h : j < 9) : moreI c j = (decide ((c.toNat : Int) = ((idx9 j).toNat : Int)) || moreI c (j + 1)) := by
  unfold moreI idx9
  rw [List.drop_eq_getElem_cons (by simpa using h), List.any_cons, List.getD_eq_getElem?_getD, List.getElem?_eq_getElem (by simpa using h)]
  rfl
theorem moreI_end (c : UInt8) : moreI c 9 = false := rfl
theorem goM_cons (h : Nat) (b : Bool) (c : UInt8) (l : List UInt8) : goM h b (c :: l) = if (c.toNat : Int) = 47 ∧ b = true then goM (h + 1) false l else if (signB c || (b && moreB c)) = true then goM h true l else false := by
  have q : (c == 47) = decide ((c.toNat : Int) = 47) := by
    rw [Bool.eq_iff_iff, beq_iff_eq, decide_eq_true_iff]
    exact ⟨fun h => by rw [h]; rfl, fun h => UInt8.toNat_inj.1 (Int.natCast_inj.1 h)⟩
  conv => lhs; unfold goM
  rw [q]
  simp only [Bool.and_eq_true, decide_eq_true_eq]
set_option maxRecDepth 100000 in
set_option maxHeartbeats 8000000 in
theorem rmedia_c (l : List UInt8) (w : World) (hl : l.length ≤ 140737488351232) :
    Calls Tryd.prog 16 #[.string (T l)] w fun e w' => e = .returned (.bool (mediaL l && decide (l.length ≤ 127))) ∧ w = w' := by
  have hz : (T l).size = l.length := by simp [ByteArray.size]
  have HZ := Lib.hid hz
  have HT := Lib.hid (goM_media l)
  have HX := Lib.hid (fun (j : Nat) (h : j < 9) => idxS [33, 35, 36, 38, 45, 94, 95, 46, 43] j (idx9 j) (by unfold idx9; rw [List.getD_eq_getElem?_getD, List.getElem?_eq_getElem (by simpa using h)]; rfl))
  clear hz
  go_enter Tryd.func16, Tryd.ntmps16
  go_wp2
  go_loop [3, 4, 6] (fun h b i => ∃ (k n : Nat) (g : Bool), k ≤ l.length ∧ n ≤ k + 1 ∧ i = .int .i64 k ∧ h = .int .i64 n ∧ b = .bool g ∧ Hid (goM 1 false l = goM n g (l.drop k))) (fun _ _ i => l.length - (intOf i).toNat)
  case atStart => exact ⟨0, 1, false, Nat.zero_le _, by omega, rfl, rfl, rfl, Lib.hid rfl⟩
  case round =>
    obtain ⟨k, n, g, hk, hn, rfl, rfl, rfl, HN⟩ := hrel
    by_cases hlt : k < l.length
    · obtain ⟨c, hc⟩ : ∃ c, l[k]? = some c := ⟨_, List.getElem?_eq_getElem hlt⟩
      have HI := idxS l k c hc
      unfold IdxS at HI
      have HG0 := Lib.hid (show goM 1 false l = _ by rw [HN.out, drop_step hc, goM_cons])
      clear hc
      by_cases h47 : (c.toNat : Int) = 47
      · have hc47 : c = 47 := UInt8.toNat_inj.1 (Int.natCast_inj.1 h47)
        clear h47
        subst hc47
        have HI : ∀ W : World, (Instr.index 9 (.string (T l)) (.int .i64 (k : Int))).run Tryd.prog W = .ok (.int .u8 47) W := HI
        have HS : ∀ w, Calls Tryd.prog 25 #[.int .u8 47] w (fun e w' => e = .returned (.bool false) ∧ w = w') := sign_c 47
        cases g with
        | false =>
          have HG := Lib.hid (show goM 1 false l = false by rw [HG0.out, if_neg (by simp), if_neg (by decide)])
          clear HG0
          go_wp2_with (go_at_call 25; refine (HS _).mono ?_; rintro e w' ⟨rfl, rfl⟩)
          go_loop [8, 9] (fun s i => s = .bool false ∧ i = .int .i64 0) (fun _ _ => 0)
          case atStart => exact ⟨rfl, rfl⟩
          case round =>
            obtain ⟨rfl, rfl⟩ := hrel
            go_wp2
            go_ret
            exact ⟨ret_bool (by rw [← HT.out, HG.out]; rfl), rfl⟩
        | true =>
          have HG := Lib.hid (show goM 1 false l = goM (n + 1) false (l.drop (k + 1)) by rw [HG0.out, if_pos ⟨rfl, rfl⟩])
          clear HG0
          go_wp2
          go_round
          case rel => exact ⟨k + 1, n + 1, false, by omega, by omega, by go_num, by go_num, rfl, HG⟩
          case measure => simp [intOf]; omega
      · have hx : ((c.toNat : Int) == 47) = false := by simpa using h47
        have HS := sign_c c
        cases g with
        | false =>
          have HG1 := Lib.hid (show goM 1 false l = if signB c = true then goM n true (l.drop (k + 1)) else false by rw [HG0.out, if_neg (fun h => h47 h.1)]; simp)
          clear HG0
          clear h47
          go_wp2_with (go_at_call 25; refine (HS _).mono ?_; rintro e w' ⟨rfl, rfl⟩)
          go_loop [8, 9] (fun s i => s = .bool (signB c) ∧ i = .int .i64 0) (fun _ _ => 0)
          case atStart => exact ⟨rfl, rfl⟩
          case round =>
            obtain ⟨rfl, rfl⟩ := hrel
            cases hs : signB c with
            | true =>
              have HG := Lib.hid (show goM 1 false l = goM n true (l.drop (k + 1)) by rw [HG1.out, if_pos hs])
              clear hs
              go_wp2
              go_round
              case rel => exact ⟨k + 1, n, true, by omega, by omega, by go_num, rfl, rfl, HG⟩
              case measure => simp [intOf]; omega
            | false =>
              have HG := Lib.hid (show goM 1 false l = false by rw [HG1.out, if_neg (by simp [hs])])
              clear hs
              go_wp2
              go_ret
              exact ⟨ret_bool (by rw [← HT.out, HG.out]; rfl), rfl⟩
        | true =>
          have HG1 := Lib.hid (show goM 1 false l = if (signB c || moreB c) = true then goM n true (l.drop (k + 1)) else false by rw [HG0.out, if_neg (fun h => h47 h.1)]; simp)
          clear HG0
          clear h47
          go_wp2_with (go_at_call 25; refine (HS _).mono ?_; rintro e w' ⟨rfl, rfl⟩)
          go_loop [8, 9] (fun s i => ∃ (j : Nat) (b : Bool), j ≤ 9 ∧ s = .bool b ∧ i = .int .i64 j ∧ Hid ((signB c || moreB c) = (b || moreI c j))) (fun _ i => 9 - (intOf i).toNat)
          case atStart => exact ⟨0, signB c, by omega, rfl, rfl, Lib.hid (by rw [moreI_all])⟩
          case round =>
            obtain ⟨j, b, hj, rfl, rfl, HB⟩ := hrel
            by_cases hj9 : j < 9
            · have HJ := HX.out j hj9
              unfold IdxS at HJ
              have HM := Lib.hid (moreI_step c j hj9)
              cases b with
              | true =>
                go_wp2
                go_round
                case rel => exact ⟨j + 1, true, by omega, rfl, by go_num, Lib.hid (by rw [HB.out]; rfl)⟩
                case measure => simp [intOf]; omega
              | false =>
                by_cases he : (c.toNat : Int) = ((idx9 j).toNat : Int)
                · have he1 : ((c.toNat : Int) == ((idx9 j).toNat : Int)) = true := by simpa using he
                  have HM := Lib.hid (show moreI c j = true by rw [HM.out, decide_eq_true he]; rfl)
                  clear he
                  go_wp2
                  go_round
                  case rel => exact ⟨j + 1, true, by omega, rfl, by go_num, Lib.hid (by rw [HB.out, HM.out]; rfl)⟩
                  case measure => simp [intOf]; omega
                · have he1 : ((c.toNat : Int) == ((idx9 j).toNat : Int)) = false := by simpa using he
                  have HM := Lib.hid (show moreI c j = moreI c (j + 1) by rw [HM.out, decide_eq_false he]; rfl)
                  clear he
                  go_wp2
                  go_round
                  case rel => exact ⟨j + 1, false, by omega, rfl, by go_num, Lib.hid (by rw [HB.out, HM.out])⟩
                  case measure => simp [intOf]; omega
            · obtain rfl : j = 9 := by omega
              have HB2 := HB.out
              rw [moreI_end, Bool.or_false] at HB2
              cases b with
              | true =>
                have HG := Lib.hid (show goM 1 false l = goM n true (l.drop (k + 1)) by rw [HG1.out, if_pos HB2])
                clear HB2
                go_wp2
                go_round
                case rel => exact ⟨k + 1, n, true, by omega, by omega, by go_num, rfl, rfl, HG⟩
                case measure => simp [intOf]; omega
              | false =>
                have HG := Lib.hid (show goM 1 false l = false by rw [HG1.out, if_neg (by rw [HB2]; simp)])
                clear HB2
                go_wp2
                go_ret
                exact ⟨ret_bool (by rw [← HT.out, HG.out]; rfl), rfl⟩
    · obtain rfl : k = l.length := by omega
      have hn := HN.out
      rw [List.drop_length] at hn
      have HE := Lib.hid (show mediaL l = (g && decide ((n : Int) = 2)) by rw [← HT.out, hn]; show (g && n == 2) = _; congr 1; rw [Bool.eq_iff_iff]; simp; omega)
      clear hn
      cases g with
      | false =>
        go_wp2
        all_goals
          go_ret
          exact ⟨ret_bool (by rw [HE.out]; simp_all), rfl⟩
      | true =>
        go_wp2
        all_goals
          go_ret
          exact ⟨ret_bool (by rw [HE.out]; simp_all <;> omega), rfl⟩
end Go.Proofs.YtjoomfikfbbnmaaDoor
