/-
  The walk over the statement of a disk's plays.
-/
import Derived.Test.YtcjlbonflecbkaaDoh
import Derived.Test.YtcjlbonflecbkaaSts
import Derived.Test.YtcjlbonflecbkaaAwd
namespace Go.Proofs.Ytcjlbonflecbkaa
open Go.RowKit
set_option linter.unusedVariables false
theorem run_op_idx (W : World) (b o len cap i : Nat) (hi : i < len) : (Instr.indexAt 22 (.slice (some ⟨b, o, none⟩) len cap) (.int .i64 (i : Int))).run Try.prog W = .ok (.pointer (some ⟨b, o + i * 6, none⟩)) W := by
  rw [run_indexAt_slice W 22 ⟨b, o, none⟩ len cap .i64 (i : Int) (by kernel_rfl)]
  have h1 : (0 : Int) ≤ (i : Int) ∧ (i : Int) < (len : Int) := by omega
  rw [if_pos h1, show (Go.sizeOf (Try.prog.elem 22)).run Try.prog W = .ok 6 W from by kernel_rfl]
  simp [Result.andThen, Addr.add]
/-- a step of a script as it came in -/
structure OpAt (W : World) (b o : Nat) (kd : Int) (s t : ByteArray) (z : Sl) (n q : Int) : Prop where
  c0 : W.cell? ⟨b, o, none⟩ = some (.int .i64 kd)
  c1 : W.cell? ⟨b, o + 1, none⟩ = some (.string s)
  c2 : W.cell? ⟨b, o + 2, none⟩ = some (.string t)
  c3 : W.cell? ⟨b, o + 3, none⟩ = some (.slice z.1 z.2.1 z.2.2.1)
  c4 : W.cell? ⟨b, o + 4, none⟩ = some (.int .i64 n)
  c5 : W.cell? ⟨b, o + 5, none⟩ = some (.int .i64 q)
  s1 : s.size ≤ maxLen
  s2 : t.size ≤ maxLen
  s3 : SlB W z
  s4 : n ≤ 9223372036854775807
theorem StsIn.op {W : World} {a : Option Addr} {len cap : Nat} {L : List (List FV)} (h : StsIn W [.i, .s, .s, .b, .i, .i] a len cap L) {i : Nat} (hi : i < len) : ∃ b off kd s t z n q, a = some ⟨b, off, none⟩ ∧ b < W.heap.size ∧ OpAt W b (off + i * 6) kd s t z n q := by
  obtain ⟨h1, h2, h3, h4, h5, h6⟩ := h
  obtain ⟨b, off, ha, hb, hc⟩ := h5.resolve_left (by omega)
  obtain ⟨r, hr⟩ : ∃ r, L[i]? = some r := ⟨_, List.getElem?_eq_getElem (by omega)⟩
  obtain ⟨h7, h8⟩ := h6 r (List.mem_of_getElem? hr)
  have hcc := hc i r hr
  simp only [List.length_cons, List.length_nil] at h7 hcc
  match r, h7, h8, hcc with
  | [f0, f1, f2, f3, f4, f5], _, h8, hcc =>
    have e0 := h8 0 _ _ rfl rfl
    have e1 := h8 1 _ _ rfl rfl
    have e2 := h8 2 _ _ rfl rfl
    have e3 := h8 3 _ _ rfl rfl
    have e4 := h8 4 _ _ rfl rfl
    have e5 := h8 5 _ _ rfl rfl
    cases f0 <;> first | exact e0.elim | skip
    cases f1 <;> first | exact e1.elim | skip
    cases f2 <;> first | exact e2.elim | skip
    cases f3 <;> first | exact e3.elim | skip
    cases f4 <;> first | exact e4.elim | skip
    cases f5 <;> first | exact e5.elim | skip
    refine ⟨b, off, _, _, _, _, _, _, ha, hb, hcc 0 _ rfl, hcc 1 _ rfl, hcc 2 _ rfl, hcc 3 _ rfl, hcc 4 _ rfl, hcc 5 _ rfl, e1, e2, e3, ?_⟩
    have e6 : (Lit.int .i64 _).wf = true := e4
    rw [show (Lit.int .i64 _).wf = (decide (_ ≤ _) && decide (_ ≤ (9223372036854775807 : Int))) from rfl, Bool.and_eq_true] at e6
    exact of_decide_eq_true e6.2
theorem row_base {w : World} {B B' : Nat} {e : TypeId} {size n : Nat} {v : Value} {xs : List Value} (h : w.ownsRow B e size v n xs) (hB : B' ≤ B) : w.ownsRow B' e size v n xs := by
  refine ⟨h.1, ?_⟩
  rcases h.2 with hn | ⟨g, cap, cur, h1, h2, r⟩
  · exact .inl hn
  · exact .inr ⟨g, cap, cur, h1, Nat.le_trans hB h2, r⟩
theorem DKr.base_le {B B' : Nat} {S : Dsk} {w : World} (h : DKr B S w) (hB : B' ≤ B) : DKr B' S w :=
  ⟨h.hm.imp id fun ⟨b, h1, h2, h3⟩ => ⟨b, h1, Nat.le_trans hB h2, h3⟩, fun b f hf => by
    obtain ⟨h1, h2, h3, h4⟩ := h.hf b f hf
    exact ⟨Nat.le_trans hB h1, h2, row_base h3 hB, h4⟩, h.ha, h.hr, row_base h.hl hB, h.hc⟩
theorem RDK.base_le {F : Nat → Prop} {B B' m : Nat} {lv : Value} {A : Ad} {w : World} (h : RDK F B m lv A w) (hB : B' ≤ B) : RDK F B' m lv A w := by
  obtain ⟨ps, h1, h2, h3⟩ := h.hl
  exact ⟨Nat.le_trans hB h.base, h.noF, h.hd, ps, h1, row_base h2 hB, h3⟩
set_option maxRecDepth 100000 in
theorem dnew_bad (room : Int) (w : World) (h : room < 0 ∨ 67108864 < room) : Calls Try.prog 8 #[.int .i64 room] w fun e w' => e = .returned (.tuple #[.pointer none, .int .i64 1]) ∧ w' = w := by
  rcases h with h | h
  · go_enter Try.func8, Try.ntmps8
    go_wp2_with fail
    go_ret2
    exact ⟨rfl, rfl⟩
  · have h2 : ¬ room < 0 := by omega
    go_enter Try.func8, Try.ntmps8
    go_wp2_with fail
    go_ret2
    exact ⟨rfl, rfl⟩
theorem rd_old {W W' : World} {a : Option Addr} {n : Nat} {z : List Nat} (h : Rd W a n z) (hb : Below W.heap.size W W') : Rd W' a n z := h.below hb
theorem rd_blk {W : World} {a : Option Addr} {n : Nat} {z : List Nat} (h : Rd W a n z) {b o : Nat} {s : Option _} (e : a = some ⟨b, o, s⟩) (hn : n ≠ 0) : b < W.heap.size := by
  obtain ⟨b', off, h1, h2, _⟩ := h.2.2.resolve_left hn
  rw [h1] at e
  cases e
  exact h2
theorem DK.base_le {B B' d : Nat} {S : Dsk} {w : World} (h : DK B d S w) (hB : B' ≤ B) : DK B' d S w := ⟨Nat.le_trans hB h.base, h.hd, h.rest.base_le hB⟩
/-- both disks behind k steps -/
def PlR (w : World) (d m k : Nat) (wr : World) : Prop := (∃ A, Two (fun _ => False) w.heap.size d m k A wr) ∧ Below w.heap.size w wr
set_option maxRecDepth 100000 in
set_option maxHeartbeats 8000000 in
theorem dplays_c (room : Int) (a1 : Option Addr) (len1 cap1 : Nat) (z1 : List (List FV)) (w : World) (r0 : (Lit.int .i64 room).wf = true) (r1 : StsIn w [.i, .s, .s, .b, .i, .i] a1 len1 cap1 z1) :
    Calls Try.prog 3 #[.int .i64 room, .slice a1 len1 cap1] w fun e w' => e = .returned (.bool true) ∧ Below w.heap.size w w' := by
  have HAW := Lib.hid (awake9_c w)
  have hlc := r1.2.2.1
  have hcm := r1.2.2.2.1
  have HR1 := Lib.hid r1
  clear r1
  by_cases hbad : room < 0 ∨ 67108864 < room
  · have HD := Lib.hid (fun W => dnew_bad room W hbad)
    go_enter Try.func3, Try.ntmps3
    go_wp2_with fail
    refine HAW.out.mono ?_
    rintro e1 w1 ⟨rfl, hb1⟩
    clear HAW
    go_wp2_with fail
    refine (HD.out _).mono ?_
    rintro e2 w2 ⟨rfl, rfl⟩
    clear HD
    rcases hbad with hb | hb
    · go_wp2_with fail
      go_ret
      exact ⟨rfl, hb1⟩
    · have hb2 : ¬ room < 0 := by omega
      go_wp2_with fail
      go_ret
      exact ⟨rfl, hb1⟩
  · have h0 : ¬ room < 0 := by omega
    have h1 : ¬ 67108864 < room := by omega
    have HD := Lib.hid (fun W => dnew_c room W (by omega) (by omega))
    clear hbad
    go_enter Try.func3, Try.ntmps3
    go_wp2_with fail
    refine HAW.out.mono ?_
    rintro e1 w1 ⟨rfl, hb1⟩
    have HB1 := Lib.hid hb1
    clear HAW hb1
    go_wp2_with fail
    refine (HD.out _).mono ?_
    rintro e2 w2 ⟨rfl, hk2, hb2⟩
    obtain ⟨d, hd⟩ : ∃ d, d = w1.heap.size := ⟨_, rfl⟩
    rw [← hd] at hk2 ⊢
    have HRN := Lib.hid (rnew_c ((newS room).own d) room w2 (fun k hk => (hk2.ownLt hk).2))
    have HK2 := Lib.hid hk2
    have HB2 := Lib.hid hb2
    have HDW := Lib.hid hd
    clear hk2 hb2 HD hd
    go_wp2_with fail
    refine HRN.out.mono ?_
    rintro e3 w3 ⟨rfl, hd3, hb3⟩
    obtain ⟨m, hm⟩ : ∃ m, m = w2.heap.size := ⟨_, rfl⟩
    rw [← hm] at hd3 ⊢
    have hwd : w.heap.size ≤ d := by have := HB1.out.size; have := HDW.out; omega
    have hdm : d ≤ m := by have := HB2.out.size; have := HDW.out; omega
    have HP0 := Lib.hid (show PlR w d m 0 w3 from ⟨⟨⟨room, -1, false, [], [], []⟩, ⟨⟨newS room, .slice none 0 0, by
        have e1 := HK2.out
        rw [HDW.out] at e1 hwd ⊢
        exact DK.base_le (e1.below hb3) HB1.out.size, anewS room (by omega) (by omega), by
        have e2 := hd3.base_le (B' := w.heap.size) (by omega)
        exact e2.sta (Sta.refl _ _) (fun j hj => .inl (by rcases hj with hj | hj; exact hj; exact hj.elim)), fun j hj => hj.elim⟩, fun j hj => hj.elim⟩, Nat.le_refl _⟩, HB1.out.trans ((HB2.out.mono HB1.out.size).trans (hb3.mono (Nat.le_trans HB1.out.size HB2.out.size)))⟩)
    clear hd3 hb3 HRN HK2 HB1 HB2 HDW hm hwd hdm
    go_wp2_with fail
    go_loopw [39] (fun i wr => ∃ k : Nat, k ≤ len1 ∧ k ≤ 60 ∧ i = .int .i64 k ∧ Hid (PlR w d m k wr)) (fun i _ => len1 - (intOf i).toNat)
    case atStart => exact ⟨0, Nat.zero_le _, by omega, rfl, HP0⟩
    case round =>
      clear HP0
      obtain ⟨k, hk, hk60, rfl, HP⟩ := hrel
      by_cases hkn : k < len1
      · obtain ⟨b, off, kd, s, t, z, n, q, rfl, hb, hop⟩ := HR1.out.op hkn
        have HOP := Lib.hid hop
        have hbw := HP.out.2
        have c0 := (hbw.cell (p := ⟨b, off + k * 6, none⟩) hb).trans hop.c0
        have c1 := (hbw.cell (p := ⟨b, off + k * 6 + 1, none⟩) hb).trans hop.c1
        have c2 := (hbw.cell (p := ⟨b, off + k * 6 + 2, none⟩) hb).trans hop.c2
        have c3 := (hbw.cell (p := ⟨b, off + k * 6 + 3, none⟩) hb).trans hop.c3
        have c4 := (hbw.cell (p := ⟨b, off + k * 6 + 4, none⟩) hb).trans hop.c4
        have c5 := (hbw.cell (p := ⟨b, off + k * 6 + 5, none⟩) hb).trans hop.c5
        have hix := fun W => run_op_idx W b off len1 cap1 k hkn
        obtain ⟨za, zn, zc, zz⟩ := z
        simp only at c3
        obtain ⟨w5, hw5⟩ : ∃ w5, w5 = wr.alloc (.cells #[.int .i64 kd, .string s, .string t, .slice za zn zc, .int .i64 n, .int .i64 q] 32) := ⟨_, rfl⟩
        have hb5 : Below wr.heap.size wr w5 := by rw [hw5]; exact (Below.refl _ _).alloc (Nat.le_refl _) _
        obtain ⟨X, hX⟩ : ∃ X, X = wr.heap.size := ⟨_, rfl⟩
        have hbx : OpB w5 X kd s t (.slice za zn zc) n q := by rw [hw5, hX]; exact heap_alloc_new wr _
        obtain ⟨x0, x1, x2, x3, x4, x5⟩ := hbx.cells
        have HB5 := Lib.hid hb5
        have HBX := Lib.hid hbx
        by_cases h60 : k < 60
        · have hbr := hbw.trans (hb5.mono hbw.size)
          have hDO : ∃ A', Calls Try.prog 10 #[.pointer (some ⟨d, 0, none⟩), .pointer (some ⟨m, 0, none⟩), .agg #[.int .i64 kd, .string s, .string t, .slice za zn zc, .int .i64 n, .int .i64 q]] w5 (DoR (fun _ => False) w.heap.size d m k w5 A') := by
            obtain ⟨A, hA⟩ := HP.out.1
            obtain ⟨s1, s2, s3, s4⟩ := hop.s3
            simp only at s1 s2 s3 s4
            refine ⟨_, does_c (hA.below hb5) (Nat.le_trans hbw.size hb5.size) (by omega) kd s t hop.s1 hop.s2 za zn zc zz (rd_old s1 hbr) (fun b o sp e hn0 => rd_blk s1 e hn0) s2 s3 (by omega) n q hop.s4⟩
          obtain ⟨A', hDO⟩ := hDO
          have HDO := Lib.hid hDO
          have HBR := Lib.hid hbr
          clear hop hDO hbr hbw hbx hb5
          have hk6 : ¬ 60 ≤ (k : Int) := by omega
          go_upto_region 12 with fail
          rw [← hX]
          rw [← hw5]
          clear hX hw5 c0 c1 c2 c3 c4 c5 hix
          go_wp2_with fail
          refine HDO.out.mono ?_
          rintro e6 w6 ⟨rfl, htw, hb6, -⟩
          have HT6 := Lib.hid htw
          have HIS := Lib.hid (is_c htw.rel htw.bnd (by omega))
          have HB6 := Lib.hid hb6
          clear htw hb6 HDO x0 x1 x2 x3 x4 x5
          go_wp2_with fail
          refine HIS.out.mono ?_
          rintro e7 w7 ⟨rfl, hb7⟩
          have HP7 := Lib.hid (show PlR w d m (k + 1) w7 from ⟨⟨_, HT6.out.below hb7⟩, (HBR.out.trans HB6.out).trans (hb7.mono (Nat.le_trans HBR.out.size HB6.out.size))⟩)
          clear hb7 HIS HT6 HB6 HBR HP HB5 HBX
          go_wp2_with fail
          go_roundw
          case rel => exact ⟨k + 1, by omega, by omega, by go_num, HP7⟩
          case measure => simp [intOf]; omega
        · have hk6 : (60 : Int) ≤ (k : Int) := by omega
          have HE := Lib.hid (hbw.trans (hb5.mono hbw.size))
          clear hop hbw hbx hb5 HP
          go_upto_region 12 with fail
          rw [← hX]
          rw [← hw5]
          clear hX hw5 c0 c1 c2 c3 c4 c5 hix
          go_wp2_with fail
          go_ret
          exact ⟨rfl, HE.out⟩
      · have HE := Lib.hid HP.out.2
        clear HP
        go_wp2_with fail
        go_ret
        exact ⟨rfl, HE.out⟩
end Go.Proofs.Ytcjlbonflecbkaa
