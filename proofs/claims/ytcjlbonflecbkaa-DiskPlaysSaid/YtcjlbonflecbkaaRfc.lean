/-
  The document's disk in memory: New, power, names; a Create.
-/
import Derived.Test.YtcjlbonflecbkaaRfb
namespace Go.Proofs.Ytcjlbonflecbkaa
open Go.RowKit
set_option linter.unusedVariables false
/-- a loose change's four cells -/
abbrev DR := DCh × Value
def dcells (ps : List DR) : List Value := ps.flatMap fun r => [.int .i64 (r.1.kind : Int), .string r.1.a, .string r.1.b, r.2]
def PC (N : Nat → Prop) (w : World) (r : DR) : Prop := ∃ ra rn rc, r.2 = .slice ra rn rc ∧ RB N w ra rn rc r.1.p
def OwnR (m : Nat) (lv : Value) (k : Nat) : Prop := k = m ∨ lv.ownBlock = some k
def NR (F : Nat → Prop) (m : Nat) (lv : Value) (k : Nat) : Prop := F k ∨ OwnR m lv k
/-- the document's disk in memory: its struct is block m, its changes' slice lv; F: blocks that are others' -/
structure RDK (F : Nat → Prop) (B m : Nat) (lv : Value) (A : Ad) (w : World) : Prop where
  base : B ≤ m
  noF : ∀ k, OwnR m lv k → ¬ F k
  hd : ∃ na nn nc sa sn sc, w.heap[m]? = some (.cells #[.int .i64 A.room, .slice na nn nc, .slice sa sn sc, lv, .int .i64 A.fuse, .bool A.down] 91 (0, 0)) ∧ RF (NR F m lv) w na nn A.now ∧ RF (NR F m lv) w sa sn A.sure
  hl : ∃ ps : List DR, ps.map (·.1) = A.loose ∧ w.ownsRow B 94 4 lv ps.length (dcells ps) ∧ ∀ r ∈ ps, PC (NR F m lv) w r
/-- what is not its own stands -/
structure MvR (m : Nat) (lv lv' : Value) (w w' : World) : Prop where
  os : w'.os = w.os
  tape : w'.tape = w.tape
  output : w'.output = w.output
  size : w.heap.size ≤ w'.heap.size
  block : ∀ k, k < w.heap.size → ¬ OwnR m lv k → w'.heap[k]? = w.heap[k]?
  own : ∀ k, OwnR m lv' k → OwnR m lv k ∨ w.heap.size ≤ k
theorem MvR.refl (m : Nat) (lv : Value) (w : World) : MvR m lv lv w w := ⟨rfl, rfl, rfl, Nat.le_refl _, fun _ _ _ => rfl, fun _ h => .inl h⟩
theorem MvR.ofBelow {m : Nat} {lv : Value} {w w' : World} (h : Below w.heap.size w w') : MvR m lv lv w w' := ⟨h.os, h.tape, h.output, h.size, fun k hk _ => h.block k hk, fun _ h => .inl h⟩
theorem MvR.trans {m : Nat} {l0 l1 l2 : Value} {w w1 w2 : World} (h : MvR m l0 l1 w w1) (k : MvR m l1 l2 w1 w2) : MvR m l0 l2 w w2 :=
  ⟨k.os.trans h.os, k.tape.trans h.tape, k.output.trans h.output, Nat.le_trans h.size k.size, fun j hj hn => (k.block j (Nat.lt_of_lt_of_le hj h.size) fun ho => by
      rcases h.own j ho with h1 | h1
      · exact hn h1
      · omega).trans (h.block j hj hn), fun j hj => by
      rcases k.own j hj with h1 | h1
      · exact h.own j h1
      · exact .inr (Nat.le_trans h.size h1)⟩
theorem RDK.lt {F : Nat → Prop} {B m : Nat} {lv : Value} {A : Ad} {w : World} (h : RDK F B m lv A w) : m < w.heap.size := by
  obtain ⟨_, _, _, _, _, _, h1, _⟩ := h.hd
  exact (Array.getElem?_eq_some_iff.1 h1).1
theorem RDK.ownLt {F : Nat → Prop} {B m : Nat} {lv : Value} {A : Ad} {w : World} (h : RDK F B m lv A w) {k : Nat} (hk : OwnR m lv k) : B ≤ k ∧ k < w.heap.size := by
  rcases hk with rfl | hk
  · exact ⟨h.base, h.lt⟩
  · obtain ⟨ps, _, h2, _⟩ := h.hl
    exact World.ownsRow.lt h2 k hk
theorem RDK.ne {F : Nat → Prop} {B m : Nat} {lv : Value} {A : Ad} {w : World} (h : RDK F B m lv A w) : lv.ownBlock ≠ some m := fun e => by
  obtain ⟨_, _, _, _, _, _, h1, _⟩ := h.hd
  obtain ⟨ps, _, h2, _⟩ := h.hl
  obtain ⟨_, cur, hh⟩ := row_block h2 e
  rw [h1] at hh
  simp only [Option.some.injEq, Obj.cells.injEq] at hh
  exact absurd hh.2.1 (by decide)
theorem MvR.below {F : Nat → Prop} {B m : Nat} {lv lv' : Value} {A : Ad} {w w' : World} (h : MvR m lv lv' w w') (hd : RDK F B m lv A w) : Below B w w' :=
  ⟨h.os, h.tape, h.output, h.size, fun k hk => h.block k (Nat.lt_of_lt_of_le hk (Nat.le_trans hd.base (Nat.le_of_lt hd.lt))) fun ho => by have := (hd.ownLt ho).1; omega⟩
/-- others write -/
theorem RDK.sta {F F' : Nat → Prop} {B m : Nat} {lv : Value} {A : Ad} {w w' : World} (h : RDK F B m lv A w) (hs : Sta F w w') (hr : Ren F F' w) : RDK F' B m lv A w' := by
  have hN : Sta (NR F m lv) w w' := ⟨hs.size, fun k hk hn => hs.blk k hk fun hf => hn (.inl hf)⟩
  have hR : Ren (NR F m lv) (NR F' m lv) w := fun k hk => by
    rcases hk with hk | hk
    · rcases hr k hk with h1 | h1
      · exact .inl (.inl h1)
      · exact .inr h1
    · exact .inl (.inr hk)
  have hk : ∀ k, OwnR m lv k → w'.heap[k]? = w.heap[k]? := fun k ho => hs.blk k (h.ownLt ho).2 (h.noF k ho)
  obtain ⟨na, nn, nc, sa, sn, sc, h1, h2, h3⟩ := h.hd
  obtain ⟨ps, h4, h5, h6⟩ := h.hl
  refine ⟨h.base, fun k ho hf => ?_, ⟨na, nn, nc, sa, sn, sc, (hk m (.inl rfl)).trans h1, h2.sta hN hR, h3.sta hN hR⟩, ps, h4, row_keep h5 fun k ho => hk k (.inr ho), fun r hr' => ?_⟩
  · rcases hr k hf with h7 | h7
    · exact h.noF k ho h7
    · have := (h.ownLt ho).2; omega
  · obtain ⟨ra, rn, rc, h7, h8⟩ := h6 r hr'
    exact ⟨ra, rn, rc, h7, h8.sta hN hR⟩
theorem RDK.below {F : Nat → Prop} {B m : Nat} {lv : Value} {A : Ad} {w w' : World} (h : RDK F B m lv A w) (hb : Below w.heap.size w w') : RDK F B m lv A w' := h.sta (Sta.ofBelow hb) (Ren.refl _ _)
theorem DK.sta {B d m : Nat} {S : Dsk} {lv lv' : Value} {w w' : World} (h : DK B d S w) (hn : ∀ k, OwnR m lv k → ¬ S.own d k) (hm : MvR m lv lv' w w') : DK B d S w' := h.keep fun k hk => hm.block k (h.ownLt hk).2 fun ho => hn k ho hk
/-- the struct is written: numbers, the power; its lists: others that are told -/
theorem RDK.struct {F : Nat → Prop} {B m : Nat} {lv : Value} {A A' : Ad} {w w' : World} (h : RDK F B m lv A w) {na sa : Option Addr} {nn nc sn sc : Nat} (hh : w'.heap[m]? = some (.cells #[.int .i64 A'.room, .slice na nn nc, .slice sa sn sc, lv, .int .i64 A'.fuse, .bool A'.down] 91 (0, 0))) (ho : ∀ k, k ≠ m → k < w.heap.size → w'.heap[k]? = w.heap[k]?) (hz : w.heap.size ≤ w'.heap.size) (hnow : RF (NR F m lv) w na nn A'.now) (hsure : RF (NR F m lv) w sa sn A'.sure) (e : A'.loose = A.loose) : RDK F B m lv A' w' := by
  have hN : Sta (NR F m lv) w w' := ⟨hz, fun k hk hn => ho k (fun e => hn (.inr (.inl e))) hk⟩
  obtain ⟨ps, h4, h5, h6⟩ := h.hl
  refine ⟨h.base, h.noF, ⟨na, nn, nc, sa, sn, sc, hh, hnow.sta hN (Ren.refl _ _), hsure.sta hN (Ren.refl _ _)⟩, ps, h4.trans e.symm, row_keep h5 fun k hk => ho k (fun e => h.ne (by rw [← e]; exact hk)) (World.ownsRow.lt h5 k hk).2, fun r hr => ?_⟩
  obtain ⟨ra, rn, rc, h7, h8⟩ := h6 r hr
  exact ⟨ra, rn, rc, h7, h8.sta hN (Ren.refl _ _)⟩
theorem RDK.cellSet {F : Nat → Prop} {B m : Nat} {lv : Value} {A : Ad} {w : World} (h : RDK F B m lv A w) (i : Nat) (v : Value) (A' : Ad) {na sa : Option Addr} {nn nc sn sc : Nat} (hh : ∀ na nn nc sa sn sc, w.heap[m]? = some (.cells #[.int .i64 A.room, .slice na nn nc, .slice sa sn sc, lv, .int .i64 A.fuse, .bool A.down] 91 (0, 0)) → RF (NR F m lv) w na nn A.now → RF (NR F m lv) w sa sn A.sure → ∃ na' nn' nc' sa' sn' sc', (#[.int .i64 A.room, .slice na nn nc, .slice sa sn sc, lv, .int .i64 A.fuse, .bool A.down] : Array Value).setIfInBounds i v = #[.int .i64 A'.room, .slice na' nn' nc', .slice sa' sn' sc', lv, .int .i64 A'.fuse, .bool A'.down] ∧ RF (NR F m lv) w na' nn' A'.now ∧ RF (NR F m lv) w sa' sn' A'.sure) (hi : i < 6) (e : A'.loose = A.loose) :
    RDK F B m lv A' (w.setCell ⟨m, i, none⟩ v) ∧ MvR m lv lv w (w.setCell ⟨m, i, none⟩ v) := by
  obtain ⟨na, nn, nc, sa, sn, sc, h1, h2, h3⟩ := h.hd
  obtain ⟨na', nn', nc', sa', sn', sc', h4, h5, h6⟩ := hh _ _ _ _ _ _ h1 h2 h3
  have ho : ∀ k, k ≠ m → (w.setCell ⟨m, i, none⟩ v).heap[k]? = w.heap[k]? := fun k hk => Below.heap_setCell w ⟨m, i, none⟩ v k hk
  have hr := row_set h1 v (o := i) hi
  rw [h4] at hr
  have hz : w.heap.size ≤ (w.setCell ⟨m, i, none⟩ v).heap.size := by simp [World.setCell]
  exact ⟨h.struct hr (fun k hk _ => ho k hk) hz h5 h6 e, rfl, rfl, rfl, hz, fun k _ hn => ho k fun e => hn (.inl e), fun k hk => .inl hk⟩
theorem RDK.cells {F : Nat → Prop} {B m : Nat} {lv : Value} {A : Ad} {w : World} (h : RDK F B m lv A w) : ∃ na nn nc sa sn sc, (w.cell? ⟨m, 0, none⟩ = some (.int .i64 A.room) ∧ w.cell? ⟨m, 1, none⟩ = some (.slice na nn nc) ∧ w.cell? ⟨m, 2, none⟩ = some (.slice sa sn sc) ∧ w.cell? ⟨m, 3, none⟩ = some lv ∧ w.cell? ⟨m, 4, none⟩ = some (.int .i64 A.fuse) ∧ w.cell? ⟨m, 5, none⟩ = some (.bool A.down)) ∧ (∀ i, w.frozen? ⟨m, i, none⟩ = false) ∧ RF (NR F m lv) w na nn A.now ∧ RF (NR F m lv) w sa sn A.sure := by
  obtain ⟨na, nn, nc, sa, sn, sc, h1, h2, h3⟩ := h.hd
  exact ⟨na, nn, nc, sa, sn, sc, ⟨(cell_of_row w m 0 _ _ _ h1).trans rfl, (cell_of_row w m 1 _ _ _ h1).trans rfl, (cell_of_row w m 2 _ _ _ h1).trans rfl, (cell_of_row w m 3 _ _ _ h1).trans rfl, (cell_of_row w m 4 _ _ _ h1).trans rfl, (cell_of_row w m 5 _ _ _ h1).trans rfl⟩, fun i => frozen_of_row w m i _ _ h1, h2, h3⟩
set_option maxRecDepth 100000 in
set_option maxHeartbeats 8000000 in
theorem rnew_c (F : Nat → Prop) (room : Int) (w : World) (hF : ∀ k, F k → k < w.heap.size) : Calls Try.prog 9 #[.int .i64 room] w fun e w' => e = .returned (.pointer (some ⟨w.heap.size, 0, none⟩)) ∧ RDK F w.heap.size w.heap.size (.slice none 0 0) ⟨room, -1, false, [], [], []⟩ w' ∧ Below w.heap.size w w' := by
  go_enter Try.func9, Try.ntmps9
  go_wp2_with fail
  go_ret
  refine ⟨rfl, ⟨Nat.le_refl _, fun k hk hf => ?_, ⟨none, 0, 0, none, 0, 0, heap_alloc_new w _, RF.nil _ _ _, RF.nil _ _ _⟩, [], rfl, World.ownsRow_nil _ _ _ _, fun r hr => by cases hr⟩, (Below.refl _ _).alloc (Nat.le_refl _) _⟩
  have := hF k hf
  rcases hk with hk | hk
  · omega
  · cases hk
/-- what power does -/
def Ad.pow (A : Ad) : Ad × Bool := if A.fuse = 0 then (A.off, false) else (A.spent, true)
set_option maxRecDepth 100000 in
set_option maxHeartbeats 8000000 in
theorem rpower_c {F : Nat → Prop} {B m : Nat} {lv : Value} {A : Ad} {w : World} (h : RDK F B m lv A w) (hfu : A.fuse ≤ 9223372036854775807) : Calls Try.prog 86 #[.pointer (some ⟨m, 0, none⟩)] w fun e w' => e = .returned (.bool A.pow.2) ∧ RDK F B m lv A.pow.1 w' ∧ MvR m lv lv w w' := by
  obtain ⟨na, nn, nc, sa, sn, sc, ⟨-, -, -, -, c4, c5⟩, hfz, -, -⟩ := h.cells
  have f4 := hfz 4
  have f5 := hfz 5
  have HD := Lib.hid h
  unfold Ad.pow
  by_cases h0 : A.fuse = 0
  · rw [if_pos h0]
    obtain ⟨k1, k2⟩ := h.cellSet 5 (.bool true) A.off (na := none) (sa := none) (nn := 0) (nc := 0) (sn := 0) (sc := 0) (fun na nn nc sa sn sc _ h2 h3 => ⟨na, nn, nc, sa, sn, sc, rfl, h2, h3⟩) (by omega) rfl
    have HK := Lib.hid (And.intro k1 k2)
    rw [h0] at c4
    clear h hfz h0 k1 k2
    go_enter Try.func86, Try.ntmps86
    go_wp2_with fail
    go_ret
    exact ⟨rfl, HK.out⟩
  · rw [if_neg h0]
    have e0 : (A.fuse == 0) = false := beq_eq_false_iff_ne.2 h0
    by_cases h1 : 0 < A.fuse
    · have hw : wrap64 (A.fuse - 1) = A.fuse - 1 := wrap64_id (by omega) (by omega)
      have hsp : A.spent.fuse = A.fuse - 1 := by unfold Ad.spent; rw [if_pos h1]
      obtain ⟨k1, k2⟩ := h.cellSet 4 (.int .i64 (wrap64 (A.fuse - 1))) A.spent (na := none) (sa := none) (nn := 0) (nc := 0) (sn := 0) (sc := 0) (fun na nn nc sa sn sc _ h2 h3 => ⟨na, nn, nc, sa, sn, sc, by rw [hsp, hw]; rfl, h2, h3⟩) (by omega) rfl
      rw [hw] at k1 k2
      have HK := Lib.hid (And.intro k1 k2)
      clear h hfz k1 k2 hw hsp
      go_enter Try.func86, Try.ntmps86
      go_wp2_with fail
      go_ret
      exact ⟨rfl, HK.out⟩
    · have hsp : A.spent = A := by unfold Ad.spent; rw [if_neg h1]
      rw [hsp]
      clear h hfz hsp
      go_enter Try.func86, Try.ntmps86
      go_wp2_with fail
      go_ret
      exact ⟨rfl, HD.out, MvR.refl _ _ _⟩
set_option maxRecDepth 100000 in
set_option maxHeartbeats 8000000 in
theorem risname_c (s : ByteArray) (w : World) (hs : s.size ≤ maxLen) : Calls Try.prog 113 #[.string s] w fun e w' => e = .returned (.bool (isNm s)) ∧ w' = w := by
  unfold isNm
  unfold maxLen at hs
  by_cases h1 : 1 ≤ s.size
  · by_cases h2 : s.size ≤ 160
    · rw [decide_eq_true h1, decide_eq_true h2]
      have i1 : (1 : Int) ≤ (s.size : Int) := by omega
      have i2 : (s.size : Int) ≤ 160 := by omega
      go_enter Try.func113, Try.ntmps113
      go_wp2_with fail
      go_ret
      exact ⟨rfl, rfl⟩
    · rw [decide_eq_true h1, decide_eq_false h2]
      have i1 : (1 : Int) ≤ (s.size : Int) := by omega
      have i2 : ¬ (s.size : Int) ≤ 160 := by omega
      go_enter Try.func113, Try.ntmps113
      go_wp2_with fail
      go_ret
      exact ⟨rfl, rfl⟩
  · rw [decide_eq_false h1]
    have i1 : ¬ (1 : Int) ≤ (s.size : Int) := by omega
    go_enter Try.func113, Try.ntmps113
    go_wp2_with fail
    go_ret
    exact ⟨rfl, rfl⟩
set_option maxRecDepth 100000 in
set_option maxHeartbeats 8000000 in
theorem rdo0_c {N : Nat → Prop} {w : World} {a : Option Addr} {len cap : Nat} {l : Fls} (h : RF N w a len l) (hN : ∀ k, N k → k < w.heap.size) (s t : ByteArray) (pv : Value) (hp : ∃ pa pn pc, pv = .slice pa pn pc) (hm : len ≤ 100000000) :
    Calls Try.prog 87 #[.slice a len cap, .agg #[.int .i64 0, .string s, .string t, pv]] w (RetF N (withF l (s, [])) w) := by
  obtain ⟨pa, pn, pc, rfl⟩ := hp
  obtain ⟨X, hX⟩ : ∃ X, X = w.heap.size := ⟨_, rfl⟩
  obtain ⟨w1, hw⟩ : ∃ w1, w1 = w.alloc (.cells #[.int .i64 0, .string s, .string t, .slice pa pn pc] 94) := ⟨_, rfl⟩
  have hb1 : Below w.heap.size w w1 := by rw [hw]; exact (Below.refl _ _).alloc (Nat.le_refl _) _
  have hh : w1.heap[X]? = some (.cells #[.int .i64 0, .string s, .string t, .slice pa pn pc] 94 (0, 0)) := by rw [hw, hX]; exact heap_alloc_new w _
  have c0 := (cell_of_row w1 X 0 _ _ _ hh).trans rfl
  have c1 := (cell_of_row w1 X 1 _ _ _ hh).trans rfl
  have hrf := h.below hb1
  have HB1 := Lib.hid hb1
  have HW := Lib.hid (rwith_c (f := (s, [])) (fa := none) (fn := 0) (fc := 0) (cap := cap) hrf (fun k hk => by have := hN k hk; have := hb1.size; omega) ⟨⟨rfl, by simp, .inl rfl⟩, fun _ _ _ e => (by cases e), fun _ => rfl, Nat.le_refl _⟩ hm)
  clear h hN hb1 hh hrf
  go_enter Try.func87, Try.ntmps87
  go_wp2_with fail
  rw [← hX, ← hw]
  clear hX hw
  go_wp2_with fail
  refine HW.out.mono ?_
  rintro e2 w2 ⟨a2, l2, k2, rfl, h2, hb2⟩
  have H2 := Lib.hid h2
  have HB2 := Lib.hid (HB1.out.trans (hb2.mono HB1.out.size))
  clear h2 hb2 HW c0 c1
  go_wp2_with fail
  go_ret
  exact ⟨_, _, _, rfl, H2.out, HB2.out⟩
end Go.Proofs.Ytcjlbonflecbkaa
