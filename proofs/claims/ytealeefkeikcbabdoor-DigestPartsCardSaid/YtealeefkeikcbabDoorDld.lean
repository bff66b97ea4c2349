/-
  The walks over Load, and over the document's Save and Load, of digest's states.
-/
import Derived.Test.YtealeefkeikcbabDoorPkd
namespace Go.Proofs.YtealeefkeikcbabDoor
open Go.RowKit
set_option linter.unusedVariables false
theorem bytesOf_take_byte (hs : List Nat) (k : Nat) : ∀ z ∈ Sha.bytesOf (hs.take k), z < 256 := bytesOf_byte _
set_option maxRecDepth 100000 in
set_option maxHeartbeats 2000000 in
theorem rsave_c (hs tail : List Nat) (n : Nat) (ta : Option Addr) (tl tc : Nat) (w : World) (h8 : Sha.W8 hs) (hrt : Rd w ta tl tail) (htl : tl < 64) (hnil : ta = none → tc = 0) (hn : n ≤ 2305843009213693951) :
    Calls Tryd.prog 51 #[.agg (rsCells hs n (.slice ta tl tc)).toArray] w (RetB w.heap.size w (saved hs tail n)) := by
  have H8 := Lib.hid h8
  have HRT := Lib.hid hrt
  have HNI := Lib.hid hnil
  clear h8 hrt hnil
  go_enter Tryd.func51, Tryd.ntmps51
  go_upto_region 1 with fail
  refine gen_code (F := fun W => RS W w.heap.size hs n (.slice ta tl tc) ∧ Below w.heap.size w W) ⟨⟨heap_new _ _, H8.out.1⟩, (Below.refl _ _).alloc (Nat.le_refl _) _⟩ ?_
  rintro wA ⟨h, h'⟩
  have H0 := Lib.hid h
  have HB0 := Lib.hid h'
  have hsA := h'.size
  have hlt := h.lt
  clear h h'
  go_wp2_with fail
  go_loopw [3, 4] (fun v i wr => ∃ k : Nat, k ≤ 8 ∧ i = .int .i64 k ∧ Hid (Own wr wA.heap.size v (Sha.bytesOf (hs.take k))) ∧ Hid (Below wA.heap.size wA wr)) (fun _ i _ => 8 - (intOf i).toNat)
  case atStart => exact ⟨0, Nat.zero_le _, rfl, Own.nil _ _, Below.refl _ _⟩
  case round =>
    obtain ⟨k, hk, rfl, HO, HB⟩ := hrel
    by_cases hk8 : k < 8
    · have hsz := HB.out.size
      obtain ⟨x, hx⟩ : ∃ x, x = hs.getD k 0 := ⟨_, rfl⟩
      have hx32 : x < 4294967296 := by rw [hx, getD_at _ _ (by rw [H8.out.1]; exact hk8)]; exact H8.out.2 _ (List.getElem_mem _)
      have hcx : wr.cell? ⟨w.heap.size, k, none⟩ = some (.int .u32 (x : Int)) := by
        rw [(H0.out.below HB.out hlt).cellq, rsCells, List.getElem?_append_left (by rw [wordsOf_length, H8.out.1]; exact hk8), hx]
        have := wordsOf_get hs k (by rw [H8.out.1]; exact hk8)
        simpa using this
      have HNX := Lib.hid (show Sha.bytesOf (hs.take k) ++ Numm.put x 4 = Sha.bytesOf (hs.take (k + 1)) from by
        rw [bytesOf_snoc hs k (by rw [H8.out.1]; exact hk8), hx, getD_at _ _ (by rw [H8.out.1]; exact hk8)])
      obtain ⟨P, hP⟩ : ∃ P, P = Numm.put x 4 := ⟨_, rfl⟩
      have HPUT := Lib.hid ((refPut_in x 4 wr (by omega) (by omega) (by omega)).mono (RetB.form (Numm.put_byte _ _)))
      rw [← hP] at HNX HPUT
      have HPL := Lib.hid (show P.length = 4 from by rw [hP, Numm.put_len])
      have hwx : IntKind.u64.wrap (x : Int) = (x : Int) := by rw [IntKind.wrap_u64]; omega
      clear hx hP
      go_wp2_with fail
      refine HPUT.out.mono ?_
      rintro e2 w2 ⟨a2, L2, c2, rfl, hl2, hlc2, hc2, hn2, hr2, ho2, hb2⟩
      have HR2 := Lib.hid hr2
      have HN2 := Lib.hid hn2
      have HO2 := Lib.hid (HO.out.keep hb2)
      have HB2 := Lib.hid (HB.out.trans (hb2.mono hsz))
      have hsz2 := HB2.out.size
      have HLE := Lib.hid (show (Sha.bytesOf (hs.take k)).length + P.length ≤ 140737488355328 from by rw [bytesOf_len, List.length_take, HPL.out]; omega)
      clear hl2 hlc2 hc2 hn2 hr2 ho2 hb2 HPUT HO HB hcx hwx
      go_wp2_with (at_builtin; (refine wpList_catR rfl (.tmp 9) (.tmp 15) rfl wA.heap.size _ (Sha.bytesOf (hs.take k)) P rfl HO2.out hsz2 _ _ _ rfl HR2.out HN2.out (bytesOf_take_byte _ _) HLE.out ?_); intro a3 L3 c3 w3 g1 g2 g3 g4 g5 g6 g7; have HO3 := Lib.hid (show Own w3 wA.heap.size (.slice a3 L3 c3) (Sha.bytesOf (hs.take (k + 1))) from by rw [← HNX.out]; exact g6); have HB3 := Lib.hid (HB2.out.trans g7); clear g1 g2 g3 g4 g5 g6 g7)
      go_roundw
      case rel => exact ⟨k + 1, by omega, by go_num, HO3, HB3⟩
      case measure => simp [intOf]; omega
    · obtain rfl : k = 8 := by omega
      have hta : hs.take 8 = hs := List.take_of_length_le (by rw [H8.out.1]; omega)
      rw [hta] at HO
      have hsz := HB.out.size
      have HR1 := Lib.hid (H0.out.below HB.out hlt)
      have hcn : wr.cell? ⟨w.heap.size, 8, none⟩ = some (.int .u64 (n : Int)) := HR1.out.num
      obtain ⟨P, hP⟩ : ∃ P, P = Numm.put n 8 := ⟨_, rfl⟩
      have HPUT := Lib.hid ((refPut_in n 8 wr (by omega) (by omega) (by omega)).mono (RetB.form (Numm.put_byte _ _)))
      rw [← hP] at HPUT
      have HPL := Lib.hid (show P.length = 8 from by rw [hP, Numm.put_len])
      have HPB := Lib.hid (show ∀ z ∈ P, z < 256 from by rw [hP]; exact Numm.put_byte _ _)
      have HPE := Lib.hid hP
      clear hP hta
      go_wp2_with fail
      refine HPUT.out.mono ?_
      rintro e2 w2 ⟨a2, L2, c2, rfl, hl2, hlc2, hc2, hn2, hr2, ho2, hb2⟩
      have HR2 := Lib.hid hr2
      have HN2 := Lib.hid hn2
      have HO2 := Lib.hid (HO.out.keep hb2)
      have HB2 := Lib.hid (HB.out.trans (hb2.mono hsz))
      have hsz2 := HB2.out.size
      have HLE := Lib.hid (show (Sha.bytesOf hs).length + P.length ≤ 140737488355328 from by rw [bytesOf_len, H8.out.1, HPL.out]; omega)
      clear hl2 hlc2 hc2 hn2 hr2 ho2 hb2 HPUT HO HB hcn
      go_upto_region 7 with (at_builtin; (refine wpList_catR rfl (.tmp 17) (.tmp 20) rfl wA.heap.size _ (Sha.bytesOf hs) P rfl HO2.out hsz2 _ _ _ rfl HR2.out HN2.out (bytesOf_byte _) HLE.out ?_); intro a3 L3 c3 w3 g1 g2 g3 g4 g5 g6 g7; have HO3 := Lib.hid g6; have HB3 := Lib.hid (HB2.out.trans g7); clear g1 g2 g3 g4 g5 g6 g7)
      have hsz3 := HB3.out.size
      have hct : w3.cell? ⟨w.heap.size, 9, none⟩ = some (.slice ta tl tc) := (H0.out.below HB3.out hlt).tail
      have HRT3 := Lib.hid (HRT.out.below (HB0.out.trans (HB3.out.mono hsA)))
      have HLE3 := Lib.hid (show (Sha.bytesOf hs ++ P).length + tail.length ≤ 140737488355328 from by rw [List.length_append, bytesOf_len, H8.out.1, HPL.out, HRT.out.1]; omega)
      have HBY := Lib.hid (show ∀ z ∈ Sha.bytesOf hs ++ P, z < 256 from by
        intro z hz
        rcases List.mem_append.1 hz with h | h
        · exact bytesOf_byte _ z h
        · exact HPB.out z h)
      clear HO2 HB2 HR2 HLE
      go_wp2_with (at_builtin; (refine wpList_catR rfl (.tmp 22) (.tmp 24) rfl wA.heap.size _ (Sha.bytesOf hs ++ P) tail rfl HO3.out hsz3 _ _ _ rfl HRT3.out HNI.out HBY.out HLE3.out ?_); intro a4 L4 c4 w4 g1 g2 g3 g4 g5 g6 g7; have HO4 := Lib.hid g6; have HB4 := Lib.hid (HB3.out.trans g7); clear g1 g2 g3 g4 g5 g6 g7)
      go_ret
      exact ⟨_, rfl, by unfold saved; rw [← HPE.out]; exact HO4.out.base hsA, HB0.out.trans (HB4.out.mono hsA)⟩
/-- what the bytes of a state tell -/
def numAt (b : List Nat) : Nat := Numm.num 0 ((b.drop 32).take 8)
def wordsAt (b : List Nat) : List Nat := (List.range 8).map fun i => Numm.num 0 [b.getD (4 * i) 0, b.getD (4 * i + 1) 0, b.getD (4 * i + 2) 0, b.getD (4 * i + 3) 0]
theorem getD_byte (b : List Nat) (h : ∀ z ∈ b, z < 256) (i : Nat) : b.getD i 0 < 256 := by
  by_cases hi : i < b.length
  · rw [getD_at _ _ hi]; exact h _ (List.getElem_mem hi)
  · rw [List.getD_eq_getElem?_getD, List.getElem?_eq_none (by omega)]; simp
theorem wordsAt_8 (b : List Nat) (h : ∀ z ∈ b, z < 256) : Sha.W8 (wordsAt b) := by
  refine ⟨by simp [wordsAt], fun z hz => ?_⟩
  obtain ⟨i, _, rfl⟩ := List.mem_map.1 hz
  have := Numm.num_lt [b.getD (4 * i) 0, b.getD (4 * i + 1) 0, b.getD (4 * i + 2) 0, b.getD (4 * i + 3) 0] (by
    intro z hz
    simp only [List.mem_cons, List.not_mem_nil, or_false] at hz
    rcases hz with rfl | rfl | rfl | rfl <;> exact getD_byte b h _)
  simpa using this
theorem numAt_lt (b : List Nat) (h : ∀ z ∈ b, z < 256) : numAt b < 18446744073709551616 := by
  have := Numm.num_lt ((b.drop 32).take 8) (fun z hz => h z (List.mem_of_mem_drop (List.mem_of_mem_take hz)))
  have hl : ((b.drop 32).take 8).length ≤ 8 := by rw [List.length_take]; omega
  refine Nat.lt_of_lt_of_le this ?_
  exact Nat.le_trans (Nat.pow_le_pow_right (by omega) hl) (by decide)
theorem rd_mid {w : World} {a : Option Addr} {len cap : Nat} {zs : List Nat} (h : Rd w a len zs) (hc : len ≤ cap) (l m : Nat) (hl : l ≤ m) (hm : m ≤ len) : Rd w (sla a cap l) (m - l) ((zs.drop l).take (m - l)) :=
  (h.cut cap l (by omega) hc).take (m - l) (by omega)
def LdRet (n : Int) (w : World) (e : Ending) (w' : World) : Prop := e = .returned (.tuple #[.pointer none, .int .i64 n]) ∧ Below w.heap.size w w'
set_option maxRecDepth 100000 in
set_option maxHeartbeats 2000000 in
theorem dload_short (a : Option Addr) (len cap : Nat) (w : World) (h : len < 40) :
    Calls Tryd.prog 44 #[.slice a len cap] w (LdRet 9 w) := by
  have h' : (len : Int) < 40 := by omega
  go_enter Tryd.func44, Tryd.ntmps44
  go_wp2_with fail
  go_ret2
  exact ⟨rfl, Below.refl _ _⟩
set_option maxRecDepth 100000 in
set_option maxHeartbeats 2000000 in
theorem dload_form (a : Option Addr) (len cap : Nat) (b : List Nat) (w : World) (hr : Rd w a len b) (h : 40 ≤ len) (hlc : len ≤ cap) (hlm : len ≤ 140737488355327) (hf : 2305843009213693951 < numAt b ∨ len - 40 ≠ numAt b % 64) :
    Calls Tryd.prog 44 #[.slice a len cap] w (LdRet 10 w) := by
  have h' : ¬ (len : Int) < 40 := by omega
  obtain ⟨n, hn⟩ : ∃ n, n = numAt b := ⟨_, rfl⟩
  have hnl : n < 18446744073709551616 := by rw [hn]; exact numAt_lt b hr.2.1
  have HG := Lib.hid (show Calls Tryd.prog 64 #[.slice (sla a cap 32) 8 (cap - 32)] w (fun e w' => e = .returned (.tuple #[.int .u64 (n : Int), .bool true]) ∧ w = w') from by
    rw [hn]; exact get_c (sla a cap 32) 8 (cap - 32) _ w (rd_mid hr hlc 32 40 (by omega) (by omega)) (by omega))
  have kS := fun W => show (Instr.sliceAt 63 (.slice a len cap) (some (.int .i64 32)) (some (.int .i64 40)) none).run Tryd.prog W = .ok (.slice (sla a cap 32) 8 (cap - 32)) W from run_midAt W a len cap 32 40 (by omega) (by omega)
  rw [← hn] at hf
  have e1 : (len : Int) - 40 = ((len - 40 : Nat) : Int) := by omega
  have w1 : IntKind.u64.wrap ((len - 40 : Nat) : Int) = ((len - 40 : Nat) : Int) := by rw [IntKind.wrap_u64]; omega
  clear hr hn
  obtain ⟨q, hq⟩ : ∃ q, q = len - 40 := ⟨_, rfl⟩
  rw [← hq] at e1 w1 hf
  obtain ⟨r, hrr⟩ : ∃ r, r = n % 64 := ⟨_, rfl⟩
  have e2 : (n : Int) % 64 = (r : Int) := by omega
  rw [← hrr] at hf
  clear hq hrr
  by_cases h1 : 2305843009213693951 < n
  · have t1 : decide ((2305843009213693951 : Int) < (n : Int)) = true := decide_eq_true (by omega)
    clear hf
    go_enter Tryd.func44, Tryd.ntmps44
    go_wp2_with fail
    refine HG.out.mono ?_
    rintro e2 w2 ⟨rfl, rfl⟩
    go_wp2_with fail
    go_ret2
    exact ⟨rfl, Below.refl _ _⟩
  · have t1 : decide ((2305843009213693951 : Int) < (n : Int)) = false := decide_eq_false (by omega)
    have hqr : q ≠ r := by rcases hf with h | h; exact absurd h h1; exact h
    have t2 : ((q : Int) != (r : Int)) = true := by simp; omega
    have t3 : ((q : Int) == (r : Int)) = false := by simp; omega
    clear hf
    go_enter Tryd.func44, Tryd.ntmps44
    go_wp2_with fail
    refine HG.out.mono ?_
    rintro e2 w2 ⟨rfl, rfl⟩
    go_wp2_with fail
    go_ret2
    exact ⟨rfl, Below.refl _ _⟩
end Go.Proofs.YtealeefkeikcbabDoor
