/-
  What is used of: Rfdg Rfh Rfi Rfjk Rfl Two Bia Bib Jpa Cct Crcm Crc Jpk.
-/
import Derived.Test.YtihbgigledmliaaGreatQLJournalPlays2
import Derived.WalkKit
import Derived.WalkSpells
import Derived.WalkLawsBesides
import Derived.Lib.Hide
import Derived.Laws.BitsAllLaws
import Derived.Laws.AppendOwnNone
import Derived.BigQuiet
import Derived.Deep.QuietTactic
import Derived.Deep.MidRow
import Derived.Deep.RegionWith
import Derived.OrdersHeld
import Derived.Deep.RegionHeld
import Derived.RowKit
import Derived.Deep.RegionHeld3
import Derived.Deep.DrawnRows
import Derived.ProofKit
import Derived.OpenShut
import Derived.ShutString
import Derived.ChangeOld
import Derived.SizedLaws
import Derived.Laws.CopyOwn
import Derived.Laws.Rows
import Derived.Laws.Tables
import Derived.StillTailTactics
import Derived.Deep.CutRange
import Derived.Great.BuildSlice
import Derived.Maps.OwnSet
import Derived.RangeFuncFrom
import Derived.RangeFuncCalls
import Derived.RangeFuncLeaves
import Derived.OwnWalkIn
import Derived.TacticsInMore
import Derived.LoopNIn
import Derived.LoopIn
import Derived.Shelf.LaysM
import Derived.Shelf.Strconv.Clone
import Derived.Shelf.Sort.Plain
import Derived.Shelf.Strings.Prefix
import Derived.Shelf.Slices.In.SortNone
import Derived.Shelf.Bytes.SlEqualAll
import Derived.Shelf.Bytes.Small
import Derived.Maps.AppendAt
import Derived.Orders
import Derived.Sort.OwnSorted
import Derived.Maps.RangeWalk
import Derived.Lib.AppendZerosOnto
import Derived.Deep.Slices
import Derived.Deep.Fields
import Derived.Deep.Upon
import Derived.Lib.SlBytesConst
import Derived.Deep.CutBlock
namespace Go.Proofs.YtihbgigledmliaaGreat
open Go.RowKit
set_option linter.unusedVariables false
theorem run_cell_fl (W : World) (a : Addr) (v : Option Addr) (l c : Nat) (hc : W.cell? a = some (.slice v l c)) : (Instr.loadAt 81 (.pointer (some a))).run Tryz.prog W = .ok (.slice v l c) W := by go_simp
theorem run_cell_cs (W : World) (a : Addr) (v : Option Addr) (l c : Nat) (hc : W.cell? a = some (.slice v l c)) : (Instr.loadAt 82 (.pointer (some a))).run Tryz.prog W = .ok (.slice v l c) W := by go_simp
theorem ixI_neg {l : Fls} {s : ByteArray} (h : lookF l s = none) : ixI (idxF l s) = -1 := by rw [idxF_none.2 h]; rfl
theorem ixI_pos {l : Fls} {s : ByteArray} (h : (lookF l s).isSome = true) : ∃ k : Nat, idxF l s = some k ∧ ixI (idxF l s) = (k : Int) := by
 cases e : idxF l s with
 | none => rw [idxF_none.1 e] at h; cases h
 | some k => exact ⟨k, rfl, rfl⟩
set_option maxRecDepth 100000 in
set_option maxHeartbeats 8000000 in
theorem rmay0_c {F : Nat → Prop} {B m : Nat} {lv : Value} {A : Ad} {w : World} (h : RDK F B m lv A w) (c : DCh) (hk : c.kind = 0) (pa : Option Addr) (pn pc : Nat) (hs : c.a.size ≤ maxLen) (hm : A.now.length ≤ 100000000) :
  Calls Tryz.prog 85 #[.pointer (some ⟨m, 0, none⟩), .agg #[.int .i64 (c.kind : Int), .string c.a, .string c.b, .slice pa pn pc]] w fun e w' => e = .returned (.int .i64 (A.may c)) ∧ Below w.heap.size w w' := by
 obtain ⟨X, hX⟩ : ∃ X, X = w.heap.size := ⟨_, rfl⟩
 obtain ⟨w1, hw⟩ : ∃ w1, w1 = w.alloc (.cells #[.int .i64 (c.kind : Int), .string c.a, .string c.b, .slice pa pn pc] 94) := ⟨_, rfl⟩
 have hb1 : Below w.heap.size w w1 := by rw [hw]; exact (Below.refl _ _).alloc (Nat.le_refl _) _
 have hh : w1.heap[X]? = some (.cells #[.int .i64 (c.kind : Int), .string c.a, .string c.b, .slice pa pn pc] 94 (0, 0)) := by rw [hw, hX]; exact heap_alloc_new w _
 have hk1 := h.below hb1
 obtain ⟨na, nn, nc, sa, sn, sc, ⟨c0, c1, c2, c3, c4, c5⟩, hfz, hnow, hsure⟩ := hk1.cells
 have x0 := (cell_of_row w1 X 0 _ _ _ hh).trans rfl
 have x1 := (cell_of_row w1 X 1 _ _ _ hh).trans rfl
 have x2 := (cell_of_row w1 X 2 _ _ _ hh).trans rfl
 have x3 := (cell_of_row w1 X 3 _ _ _ hh).trans rfl
 have hlen := hnow.ln
 have HFI := Lib.hid (rfind_c (cap := nc) (hnow.sta (w' := World.drew w1) ⟨Nat.le_refl _, fun _ _ _ => rfl⟩ (Ren.refl _ _)) c.a (by omega))
 have HNM := Lib.hid (fun W => risname_c c.a W hs)
 have HB1 := Lib.hid hb1.drew
 have hk0 : (c.kind : Int) = 0 := by rw [hk]; rfl
 have hmay : A.may c = (if isNm c.a = false then 1 else if (lookF A.now c.a).isSome then 7 else if 4096 ≤ A.now.length then 4 else 0) := by unfold Ad.may; rw [if_pos hk]
 rw [hlen.symm] at hmay
 obtain ⟨v, hv⟩ : ∃ v, v = A.may c := ⟨_, rfl⟩
 rw [← hv]
 rw [hmay] at hv
 have HV := Lib.hid hv
 simp only [hk0] at hw x0 x1 ⊢
 clear h hb1 hh hk1 hnow hsure hfz hmay hv c0 c2 c3 c4 c5 x2 x3
 go_enter Tryz.func85, Tryz.ntmps85
 go_wp2_with fail
 rw [← hX, ← hw]
 clear hX hw hk0
 (try dsimp only [Act.put, sT, sZ, sS])
 have HS := Lib.hid (show World.cell? (World.drew w1) ⟨m, 1, none⟩ = some (.slice na nn nc) ∧ World.cell? (World.drew w1) ⟨X, 1, none⟩ = some (.string c.a) from ⟨c1, x1⟩)
 have HL1 := Lib.hid (fun W (hW : World.cell? W ⟨m, 1, none⟩ = some (.slice na nn nc) ∧ World.cell? W ⟨X, 1, none⟩ = some (.string c.a)) => run_cell_fl W ⟨m, 1, none⟩ _ _ _ hW.1)
 have HL2 := Lib.hid (fun W (hW : World.cell? W ⟨m, 1, none⟩ = some (.slice na nn nc) ∧ World.cell? W ⟨X, 1, none⟩ = some (.string c.a)) => run_cell_s W ⟨X, 1, none⟩ _ hW.2)
 refine anyH_begin (S := fun W => World.cell? W ⟨m, 1, none⟩ = some (.slice na nn nc) ∧ World.cell? W ⟨X, 1, none⟩ = some (.string c.a)) (by kernel_rfl) ?_
 refine aP 0 (d := 6) (op := .move (.tmp 0)) (.pointer (some ⟨m, 0, none⟩)) HS.out ?_
 simp only [Act.put, sT, sZ, sS]
 refine aP 1 (d := 7) (op := .nilCheck (.tmp 6)) (.pointer (some ⟨m, 0, none⟩)) HS.out ?_
 simp only [Act.put, sT, sZ, sS]
 refine aP 2 (d := 8) (op := .fieldAddr 84 (.tmp 7) 1) (.pointer (some ⟨m, 1, none⟩)) HS.out ?_
 simp only [Act.put, sT, sZ, sS]
 refine aL 3 (d := 9) (ty := 81) (x := (.tmp 8)) (p := .pointer (some ⟨m, 1, none⟩)) (.slice na nn nc) HL1.out HS.out ?_
 simp only [Act.put, sT, sZ, sS]
 refine aP 4 (d := 10) (op := .fieldAddr 94 (.tmp 3) 1) (.pointer (some ⟨X, 1, none⟩)) HS.out ?_
 simp only [Act.put, sT, sZ, sS]
 refine aL 5 (d := 11) (ty := 9) (x := (.tmp 10)) (p := .pointer (some ⟨X, 1, none⟩)) (.string c.a) HL2.out HS.out ?_
 simp only [Act.put, sT, sZ, sS]
 refine anyH_callG 6 (d := some 12) (f := 38) (xs := #[(.tmp 9), (.tmp 11)]) (ts := #[81, 9]) (gd := none) (vs := #[.slice na nn nc, .string c.a]) (by kernel_rfl) (by rfl) wantedP (by go_simp) (by go_simp) (HFI.out) ?_
 rintro e9 w9 ⟨rfl, rfl⟩
 refine ⟨_, rfl, HS.out, fun _ => ?_⟩
 simp only [Act.put, sT, sZ, sS]
 refine aP 7 (d := 5) (op := .assign (.tmp 12)) (.int .i64 (ixI (idxF A.now c.a))) HS.out ?_
 simp only [Act.put, sT, sZ, sS]
 refine wpAnyH_done (by kernel_rfl) ?_ _
 clear HS HL1 HL2
 clear HFI
 obtain ⟨wq, hwq⟩ : ∃ wq, wq = World.drew w1 := ⟨_, rfl⟩
 rw [← hwq] at HB1 ⊢
 have x0 : wq.cell? ⟨X, 0, none⟩ = some (.int .i64 0) := by rw [hwq]; exact x0
 have x1 : wq.cell? ⟨X, 1, none⟩ = some (.string c.a) := by rw [hwq]; exact x1
 have c1 : wq.cell? ⟨m, 1, none⟩ = some (.slice na nn nc) := by rw [hwq]; exact c1
 clear hwq
 rcases (isNm_cases c.a).symm with hn | hn
 ·
  rw [hn] at HNM
  obtain rfl : v = 1 := by rw [HV.out, if_pos hn]
  go_wp2_with fail
  refine (HNM.out _).mono ?_
  rintro e2 w2 ⟨rfl, rfl⟩
  go_wp2_with fail
  go_ret
  exact ⟨rfl, HB1.out⟩
 ·
  rw [hn] at HNM
  have hv := HV.out
  rw [if_neg (by rw [hn]; decide)] at hv
  clear HV
  cases hl : (lookF A.now c.a).isSome with
  | true =>
   obtain ⟨k, _, hix⟩ := ixI_pos hl
   rw [hix]
   obtain rfl : v = 7 := by rw [hv, if_pos hl]
   clear hix hl hv
   go_wp2_with fail
   refine (HNM.out _).mono ?_
   rintro e2 w2 ⟨rfl, rfl⟩
   go_wp2_with fail
   go_ret
   exact ⟨rfl, HB1.out⟩
  | false =>
   have hl2 : lookF A.now c.a = none := by
    cases e : lookF A.now c.a with
    | none => rfl
    | some z => rw [e] at hl; cases hl
   rw [ixI_neg hl2]
   rw [if_neg (by rw [hl]; decide)] at hv
   clear hl hl2
   by_cases hz : 4096 ≤ nn
   ·
    have hz1 : (4096 : Int) ≤ (nn : Int) := by omega
    obtain rfl : v = 4 := by rw [hv, if_pos hz]
    clear hz hv
    go_wp2_with fail
    refine (HNM.out _).mono ?_
    rintro e2 w2 ⟨rfl, rfl⟩
    go_wp2_with fail
    go_ret
    exact ⟨rfl, HB1.out⟩
   ·
    have hz1 : ¬ (4096 : Int) ≤ (nn : Int) := by omega
    obtain rfl : v = 0 := by rw [hv, if_neg hz]
    clear hz hv
    go_wp2_with fail
    refine (HNM.out _).mono ?_
    rintro e2 w2 ⟨rfl, rfl⟩
    go_wp2_with fail
    go_ret
    exact ⟨rfl, HB1.out⟩
end Go.Proofs.YtihbgigledmliaaGreat
namespace Go.Proofs.YtihbgigledmliaaGreat
open Go.RowKit
set_option linter.unusedVariables false
theorem info_dch : (Tryz.prog.info? 94).map (fun i => (i.zero, i.size, i.bytes)) = some (some (.agg #[.int .i64 0, .string ⟨#[]⟩, .string ⟨#[]⟩, .slice none 0 0]), 4, 64) := by kernel_rfl
theorem run_cellsD (W : World) (X : Nat) (k : Int) (s t : ByteArray) (v : Option Addr) (n c : Nat) (h : W.cell? ⟨X, 0, none⟩ = some (.int .i64 k) ∧ W.cell? ⟨X, 1, none⟩ = some (.string s) ∧ W.cell? ⟨X, 2, none⟩ = some (.string t) ∧ W.cell? ⟨X, 3, none⟩ = some (.slice v n c)) :
  (Instr.loadAt 94 (.pointer (some ⟨X, 0, none⟩))).run Tryz.prog W = .ok (.agg #[.int .i64 k, .string s, .string t, .slice v n c]) W := by
 obtain ⟨h0, h1, h2, h3⟩ := h
 go_simp
theorem wp_bsD {w : World} {op : Oper} {a : Act} {K : Act → World → Prop} {Q : Exit → Act → World → Prop} (x : Operand) (ho : op.op = .buildSlice 82 1 #[(0, x)]) (k1 : Int) (s t : ByteArray) (v : Option Addr) (n c : Nat) (hx : a.eval x = .agg #[.int .i64 k1, .string s, .string t, .slice v n c])
  (k : K (a.put op.dst (.slice (some ⟨w.heap.size, 0, none⟩) 1 1)) (w.alloc (.cells #[.int .i64 k1, .string s, .string t, .slice v n c] 94))) : op.wp Tryz.prog a w K Q := by
 unfold Oper.wp execOp
 simp only [ho, List.map_toArray, List.map_cons, List.map_nil, hx]
 go_simp
 exact k
def dcell (r : DR) : List Value := [.int .i64 (r.1.kind : Int), .string r.1.a, .string r.1.b, r.2]
theorem dcells_snoc (ps : List DR) (r : DR) : dcells (ps ++ [r]) = dcells ps ++ dcell r := by unfold dcells dcell; simp
/-- the loose changes get one more -/
theorem RDK.push {F : Nat → Prop} {B m : Nat} {lv v : Value} {A A' : Ad} {c : DCh} {w w' : World} {ps : List DR} {pv : Value} (h : RDK F B m lv A w) (hF : ∀ k, F k → k < w.heap.size) (hps : ps.map (·.1) = A.loose) (hpc : ∀ r ∈ ps, PC (NR F m lv) w r) (hrow : w'.ownsRow B 94 4 v (ps.length + 1) (dcells ps ++ dcell (c, pv))) (hg : w.grownBy w' lv.ownBlock) (hv : v.ownBlock = lv.ownBlock ∨ ∃ k, v.ownBlock = some k ∧ w.heap.size ≤ k)
  (hp : PC (NR F m lv) w (c, pv)) (he : A' = { A with loose := A.loose ++ [c] }) :
  (w'.cell? ⟨m, 3, none⟩ = some lv ∧ w'.frozen? ⟨m, 3, none⟩ = false) ∧ RDK F B m v A' (w'.setCell ⟨m, 3, none⟩ v) ∧ MvR m lv v w (w'.setCell ⟨m, 3, none⟩ v) := by
 subst he
 obtain ⟨na, nn, nc, sa, sn, sc, h1, h2, h3⟩ := h.hd
 have hlt := h.lt
 have hne := h.ne
 have h1' : w'.heap[m]? = some (.cells #[.int .i64 A.room, .slice na nn nc, .slice sa sn sc, lv, .int .i64 A.fuse, .bool A.down] 84 (0, 0)) := (hg.block m hlt fun e => hne e.symm).trans h1
 have ho : ∀ k, k ≠ m → (w'.setCell ⟨m, 3, none⟩ v).heap[k]? = w'.heap[k]? := fun k hk => Below.heap_setCell w' ⟨m, 3, none⟩ v k hk
 have hz : (w'.setCell ⟨m, 3, none⟩ v).heap.size = w'.heap.size := by simp [World.setCell]
 have hN : Sta (NR F m lv) w (w'.setCell ⟨m, 3, none⟩ v) := ⟨by rw [hz]; exact hg.size, fun k hk hn => (ho k fun e => hn (.inr (.inl e))).trans (hg.block k hk fun e => hn (.inr (.inr e.symm)))⟩
 have hown : ∀ k, OwnR m v k → OwnR m lv k ∨ w.heap.size ≤ k := fun k hk => by
  rcases hk with hk | hk
  ·
   exact .inl (.inl hk)
  ·
   rcases hv with hv | ⟨j, hv, hj⟩
   ·
    exact .inl (.inr (hv.symm.trans hk))
   ·
    rw [hv] at hk
    have := Option.some.inj hk
    exact .inr (by omega)
 have hR : Ren (NR F m lv) (NR F m v) w := fun k hk => by
  rcases hk with hk | hk
  ·
   exact .inl (.inl hk)
  ·
   rcases hown k hk with h4 | h4
   ·
    exact .inl (.inr h4)
   ·
    exact .inr h4
 refine ⟨⟨(cell_of_row w' m 3 _ _ _ h1').trans rfl, frozen_of_row w' m 3 _ _ h1'⟩, ⟨h.base, fun k hk hf => ?_, ⟨na, nn, nc, sa, sn, sc, row_set h1' v (o := 3) (by show 3 < 6; omega), h2.sta hN hR, h3.sta hN hR⟩, ps ++ [(c, pv)], by simp [hps], ?_, fun r hr => ?_⟩, hg.os, hg.tape, hg.output, by rw [hz]; exact hg.size, fun k hk hn => (ho k fun e => hn (.inl e)).trans (hg.block k hk fun e => hn (.inr e.symm)), hown⟩
 ·
  rcases hown k hk with h4 | h4
  ·
   exact h.noF k h4 hf
  ·
   have := hF k hf; omega
 ·
  rw [dcells_snoc, List.length_append, List.length_singleton]
  refine row_keep hrow fun k hk => ho k fun e => ?_
  obtain ⟨_, cur, hh⟩ := row_block hrow hk
  rw [e, h1'] at hh
  simp only [Option.some.injEq, Obj.cells.injEq] at hh
  exact absurd hh.2.1 (by decide)
 ·
  have hr' : PC (NR F m lv) w r := by
   rcases List.mem_append.1 hr with hr | hr
   ·
    exact hpc r hr
   ·
    rw [List.mem_singleton] at hr; subst hr; exact hp
  obtain ⟨ra, rn, rc, h7, h8⟩ := hr'
  exact ⟨ra, rn, rc, h7, h8.sta hN hR⟩
theorem dcell_one (c : DCh) (v : Option Addr) (n k : Nat) : ∀ u ∈ dcell (c, .slice v n k), u.oneCell' = true := by
 intro u hu
 simp only [dcell, List.mem_cons, List.not_mem_nil, or_false] at hu
 rcases hu with rfl | rfl | rfl | rfl <;> rfl
theorem wp_pushD {w : World} {op : Oper} {a : Act} {K : Act → World → Prop} {Q : Exit → Act → World → Prop} (s x : Operand)
  (ho : op.op = .call { callee := .builtin .append, args := #[s, x], argTypes := #[82, 82] })
  {F : Nat → Prop} (B m : Nat) (lv : Value) (A : Ad) (c : DCh) (ta : Option Addr) (tn tc : Nat) (h : RDK F B m lv A w) (hF : ∀ k, F k → k < w.heap.size) (hp : PC (NR F m lv) w (c, .slice ta tn tc)) (hs : a.eval s = lv) (hx : a.eval x = .slice (some ⟨w.heap.size, 0, none⟩) 1 1) (hlen : A.loose.length + 1 ≤ 1000000000)
  (k : ∀ va vn vc w', w'.cell? ⟨m, 3, none⟩ = some lv → w'.frozen? ⟨m, 3, none⟩ = false → RDK F B m (.slice va vn vc) { A with loose := A.loose ++ [c] } (w'.setCell ⟨m, 3, none⟩ (.slice va vn vc)) → MvR m lv (.slice va vn vc) w (w'.setCell ⟨m, 3, none⟩ (.slice va vn vc)) → K (a.put op.dst (.slice va vn vc)) w') :
  op.wp Tryz.prog a (w.alloc (.cells (dcell (c, .slice ta tn tc)).toArray 94)) K Q := by
 obtain ⟨i0, hi, hz0, hz1, hz2⟩ := info_parts info_dch
 have hb := (Below.refl w.heap.size w).alloc (Nat.le_refl _) (.cells (dcell (c, .slice ta tn tc)).toArray 94)
 have ha := h.below hb
 obtain ⟨ps, h4, h5, h6⟩ := ha.hl
 have hpl : ps.length = A.loose.length := by rw [← h4, List.length_map]
 obtain ⟨v', w', hr, h1, h2, _, h7⟩ := run_append_own_at (P := Tryz.prog) (w.alloc (.cells (dcell (c, .slice ta tn tc)).toArray 94)) B 82 op.type 94 i0 _ 4 64 Tryz.underlying82 hi hz0 hz1 hz2 rfl (by decide) lv ps.length _ h5 ⟨w.heap.size, 0, none⟩ 1 1 (dcell (c, .slice ta tn tc)) rfl (fun j u hj => by
   rw [Addr.add_mid, Nat.zero_add, cell_of_row _ _ _ _ _ _ (heap_alloc_new w _)]
   simpa using hj) (dcell_one _ _ _ _) (by unfold maxLen; omega) (by omega) (by have h1 := h.base; have h2 := h.lt; simp; omega)
 obtain ⟨g1, g2, g3⟩ := ha.push (fun k hk => by have := hF k hk; simp; omega) h4 h6 h1 h2 (by
  rcases h7 with h7 | h7
  ·
   exact .inl h7
  ·
   exact .inr ⟨_, h7, Nat.le_refl _⟩) (by obtain ⟨ra, rn, rc, e1, e2⟩ := hp; exact ⟨ra, rn, rc, e1, e2.below hb⟩) rfl
 have hm : MvR m lv v' w (w'.setCell ⟨m, 3, none⟩ v') := (MvR.ofBelow hb).trans g3
 rcases h1.2 with ⟨rfl, h0⟩ | ⟨g, cap, cur, rfl, _⟩
 ·
  omega
 ·
  unfold Oper.wp execOp
  simp only [ho, resolve, invoke, builtin, Sem.run_bind, Sem.run_pure, Result.andThen_ok, List.map_toArray, List.map_cons, List.map_nil, hs, hx, hr]
  exact k _ _ _ w' g1.1 g1.2 g2 hm
theorem own_RB {N : Nat → Prop} {w : World} {B : Nat} {v : Value} {zs : List Nat} (h : Own w B v zs) (hz : ∀ z ∈ zs, z < 256) (hN : ∀ k, N k → k < B) : ∃ ta tn tc, v = .slice ta tn tc ∧ RB N w ta tn tc zs := by
 obtain ⟨ra, rc, hv, hle, -, hrd⟩ := h.rd hz
 refine ⟨ra, _, rc, hv, hrd, fun b o s e hn hb => ?_, fun e => ?_, hle⟩
 ·
  have hB := World.ownsRow.lt h b (by rw [hv, e]; rfl)
  have := hN b hb
  omega
 ·
  rcases h.2 with ⟨h1, _⟩ | ⟨g, c, cur, h1, _⟩
  ·
   rw [hv] at h1
   exact (Value.slice.inj h1).2.2
  ·
   rw [hv] at h1
   rw [e] at h1
   cases (Value.slice.inj h1).1
/-- with a block more -/
structure Mv1 (m : Nat) (lv lv' : Value) (w w' : World) : Prop extends MvR m lv lv' w w' where
 size1 : w.heap.size + 1 ≤ w'.heap.size
theorem Mv1.trans {m : Nat} {l0 l1 l2 : Value} {w w1 w2 : World} (h : Mv1 m l0 l1 w w1) (k : MvR m l1 l2 w1 w2) : Mv1 m l0 l2 w w2 := ⟨h.toMvR.trans k, Nat.le_trans h.size1 k.size⟩
theorem RDK.weak {F G : Nat → Prop} {B m : Nat} {lv : Value} {A : Ad} {w : World} (h : RDK G B m lv A w) (hw : ∀ k, F k → G k) : RDK F B m lv A w := h.sta (Sta.refl _ _) fun k hk => .inl (hw k hk)
theorem MvR.sta {F : Nat → Prop} {m : Nat} {lv lv' : Value} {w w' : World} (h : MvR m lv lv' w w') : Sta (NR F m lv) w w' := ⟨h.size, fun k hk hn => h.block k hk fun ho => hn (.inr ho)⟩
/-- what a step leaves -/
def StpR (F : Nat → Prop) (B m : Nat) (lv : Value) (w : World) (x : Int) (A' : Ad) (e : Ending) (w' : World) : Prop := e = .returned (.int .i64 x) ∧ ∃ lv', RDK F B m lv' A' w' ∧ MvR m lv lv' w w'
set_option maxRecDepth 100000 in
set_option maxHeartbeats 8000000 in
theorem rstep_c {F : Nat → Prop} {B m : Nat} {lv : Value} {A : Ad} {w0 : World} (h : RDK F B m lv A w0) (hF : ∀ k, F k → k < w0.heap.size) (c : DCh) (pa : Option Addr) (pn pc : Nat) (hp : RB (NR F m lv) w0 pa pn pc c.p) (hpn : pn ≤ 140737488355327) (hfu : A.fuse ≤ 9223372036854775807) (hll : A.loose.length + 1 ≤ 1000000000)
  (hmay : A.down = false → ∀ (G : Nat → Prop) W, RDK G B m lv A W → Calls Tryz.prog 85 #[.pointer (some ⟨m, 0, none⟩), .agg #[.int .i64 (c.kind : Int), .string c.a, .string c.b, .slice pa pn pc]] W fun e w' => e = .returned (.int .i64 (A.may c)) ∧ Below W.heap.size W w')
  (hdo : A.may c = 0 → ∀ (N : Nat → Prop) W na nn nc ta tn tc, (∀ k, N k → k < W.heap.size) → RF N W na nn A.now → RB N W ta tn tc c.p → Calls Tryz.prog 86 #[.slice na nn nc, .agg #[.int .i64 (c.kind : Int), .string c.a, .string c.b, .slice ta tn tc]] W (RetF N (doF A.now c) W)) :
  Calls Tryz.prog 39 #[.pointer (some ⟨m, 0, none⟩), .agg #[.int .i64 (c.kind : Int), .string c.a, .string c.b, .slice pa pn pc]] w0 (StpR F B m lv w0 (A.step c).2 (A.step c).1) := by
 obtain ⟨X, hX⟩ : ∃ X, X = w0.heap.size := ⟨_, rfl⟩
 obtain ⟨w1, hw⟩ : ∃ w1, w1 = w0.alloc (.cells #[.int .i64 (c.kind : Int), .string c.a, .string c.b, .slice pa pn pc] 94) := ⟨_, rfl⟩
 have hb1 : Below w0.heap.size w0 w1 := by rw [hw]; exact (Below.refl _ _).alloc (Nat.le_refl _) _
 have hh : w1.heap[X]? = some (.cells #[.int .i64 (c.kind : Int), .string c.a, .string c.b, .slice pa pn pc] 94 (0, 0)) := by rw [hw, hX]; exact heap_alloc_new w0 _
 obtain ⟨G, hG⟩ : ∃ G : Nat → Prop, G = fun k => F k ∨ k = X := ⟨_, rfl⟩
 have hRG : Ren F G w0 := fun k hk => by rw [hG] at hk; rcases hk with hk | hk; exact .inl hk; exact .inr (by omega)
 have hRN : Ren (NR F m lv) (NR G m lv) w0 := fun k hk => by
  rcases hk with hk | hk
  ·
   rcases hRG k hk with h1 | h1
   ·
    exact .inl (.inl h1)
   ·
    exact .inr h1
  ·
   exact .inl (.inr hk)
 have hk1 : RDK G B m lv A w1 := h.sta (Sta.ofBelow hb1) hRG
 have HWK := Lib.hid (show ∀ k, F k → G k from fun k hk => by rw [hG]; exact .inl hk)
 have HGX := Lib.hid (show G X by rw [hG]; exact .inr rfl)
 have HG0 := Lib.hid (show ∀ k, G k → k < w0.heap.size + 1 from fun k hk => by rw [hG] at hk; rcases hk with hk | hk; exact Nat.lt_succ_of_lt (hF k hk); omega)
 have HZ0 := Lib.hid (show w0.heap.size + 1 ≤ w1.heap.size by rw [hw]; simp)
 have HRN := Lib.hid hRN
 clear hRG hG
 obtain ⟨na0, nn0, nc0, sa0, sn0, sc0, ⟨-, -, -, -, -, c5⟩, -, -, -⟩ := hk1.cells
 have x0 := (cell_of_row w1 X 0 _ _ _ hh).trans rfl
 have x1 := (cell_of_row w1 X 1 _ _ _ hh).trans rfl
 have x2 := (cell_of_row w1 X 2 _ _ _ hh).trans rfl
 have x3 := (cell_of_row w1 X 3 _ _ _ hh).trans rfl
 have HXL := Lib.hid (show lv.ownBlock ≠ some X from fun e => by have := (h.ownLt (.inr e)).2; omega)
 have HXO := Lib.hid (show ¬ OwnR m lv X from fun ho => by have := (h.ownLt ho).2; omega)
 have HF0 := Lib.hid hF
 have HXE := Lib.hid hX
 have HK1 := Lib.hid hk1
 have HH := Lib.hid hh
 have HB1 := Lib.hid hb1
 have HP1 := Lib.hid (hp.sta (Sta.ofBelow hb1) hRN)
 clear hRN
 have HMAY := Lib.hid hmay
 have HDO0 := Lib.hid hdo
 rcases down_cases A with hd | hd
 ·
  rw [Ad.step_down c hd]
  rw [hd] at c5
  clear h hb1 hh hk1 hp hmay hdo hF
  go_enter Tryz.func39, Tryz.ntmps39
  go_upto_region 1 with fail
  rw [← hX]
  rw [← hw]
  clear hX hw
  go_wp2_with fail
  go_ret
  exact ⟨rfl, _, HK1.out.weak HWK.out, MvR.ofBelow HB1.out⟩
 rw [hd] at c5
 have HM := Lib.hid (HMAY.out hd G w1 HK1.out)
 clear HMAY
 by_cases he : ¬ A.may c = 0
 ·
  rw [Ad.step_no hd rfl he]
  have he' : (A.may c == 0) = false := beq_eq_false_iff_ne.2 he
  obtain ⟨x, hx⟩ : ∃ x, x = A.may c := ⟨_, rfl⟩
  rw [← hx] at HM he he' ⊢
  clear hx h hb1 hh hk1 hp hmay hdo hF
  go_enter Tryz.func39, Tryz.ntmps39
  go_upto_region 1 with fail
  rw [← hX]
  rw [← hw]
  clear hX hw
  go_wp2_with fail
  refine HM.out.mono ?_
  rintro e2 w2 ⟨rfl, hb2⟩
  have HK2 := Lib.hid (HK1.out.below hb2)
  have HM2 := Lib.hid ((MvR.ofBelow (m := m) (lv := lv) HB1.out).trans (MvR.ofBelow hb2))
  clear hb2 HM x0 x1 x2 x3 c5
  go_wp2_with fail
  go_ret
  exact ⟨rfl, _, HK2.out.weak HWK.out, HM2.out⟩
 have he0 : A.may c = 0 := Classical.not_not.1 he
 rw [he0] at HM
 have HDO1 := Lib.hid (HDO0.out he0)
 by_cases hfz : A.fuse = 0
 ·
  rw [Ad.step_off hd he0 hfz]
  have hpw : A.pow = (A.off, false) := by unfold Ad.pow; rw [if_pos hfz]
  clear h hb1 hh hk1 hp hmay hdo hF
  go_enter Tryz.func39, Tryz.ntmps39
  go_upto_region 1 with fail
  rw [← hX]
  rw [← hw]
  clear hX hw
  go_wp2_with fail
  refine HM.out.mono ?_
  rintro e2 w2 ⟨rfl, hb2⟩
  have HK2 := Lib.hid (HK1.out.below hb2)
  have HM2 := Lib.hid ((MvR.ofBelow (m := m) (lv := lv) HB1.out).trans (MvR.ofBelow hb2))
  have HPW := Lib.hid (rpower_c HK2.out hfu)
  rw [hpw] at HPW
  clear hb2 HM x0 x1 x2 x3 c5 hfz hpw he he0
  go_wp2_with fail
  refine HPW.out.mono ?_
  rintro e3 w3 ⟨rfl, hk3, hm3⟩
  have HK3 := Lib.hid hk3
  have HM3 := Lib.hid (HM2.out.trans hm3)
  clear hk3 hm3
  go_wp2_with fail
  go_ret
  exact ⟨rfl, _, HK3.out.weak HWK.out, HM3.out⟩
 rw [Ad.step_did hd he0 hfz]
 have hpw : A.pow = (A.spent, true) := by unfold Ad.pow; rw [if_neg hfz]
 clear h hb1 hh hk1 hp hmay hdo hF
 go_enter Tryz.func39, Tryz.ntmps39
 go_upto_region 1 with fail
 rw [← hX]
 rw [← hw]
 clear hX hw
 go_wp2_with fail
 refine HM.out.mono ?_
 rintro e2 w2 ⟨rfl, hb2⟩
 have HK2 := Lib.hid (HK1.out.below hb2)
 have HM2 := Lib.hid ((Mv1.mk (MvR.ofBelow (m := m) (lv := lv) HB1.out) HZ0.out).trans (MvR.ofBelow hb2))
 have HX2 := Lib.hid ((hb2.block X (Array.getElem?_eq_some_iff.1 HH.out).1).trans HH.out)
 have HR2 := Lib.hid (HP1.out.below hb2)
 obtain ⟨A1, hA1⟩ : ∃ A1, A1 = A.spent := ⟨_, rfl⟩
 have HN1 := Lib.hid (show A1.now = A.now ∧ A1.loose = A.loose from by rw [hA1]; exact ⟨rfl, rfl⟩)
 have HDO := Lib.hid (show ∀ (N : Nat → Prop) W na nn nc ta tn tc, (∀ k, N k → k < W.heap.size) → RF N W na nn A1.now → RB N W ta tn tc c.p → Calls Tryz.prog 86 #[.slice na nn nc, .agg #[.int .i64 (c.kind : Int), .string c.a, .string c.b, .slice ta tn tc]] W (RetF N (doF A1.now c) W) from by rw [hA1]; exact HDO1.out)
 have HDID := Lib.hid (show ∀ A2 : Ad, A2 = { A1 with now := doF A1.now c } → ({ A2 with loose := A2.loose ++ [c] } : Ad) = A.did c from fun A2 h => by rw [h, hA1]; rfl)
 have HPW := Lib.hid (rpower_c HK2.out hfu)
 rw [hpw] at HPW
 simp only [← hA1] at HPW
 clear hA1 hb2 HM x0 x1 x2 x3 c5 hfz hpw he he0
 go_wp2_with fail
 refine HPW.out.mono ?_
 rintro e3 w3 ⟨rfl, hk3, hm3⟩
 have hx3 := (hm3.block X (Array.getElem?_eq_some_iff.1 HX2.out).1 HXO.out).trans HX2.out
 have x3 := (cell_of_row w3 X 3 _ _ _ hx3).trans rfl
 have z3 := frozen_of_row w3 X 3 _ _ hx3
 have HX3 := Lib.hid hx3
 have HK3 := Lib.hid hk3
 have HM3 := Lib.hid (HM2.out.trans hm3)
 have HMP := Lib.hid hm3
 clear hk3 hm3 hx3 HPW HK1 HB1 HK2 HM2 HX2
 have HR3 := Lib.hid (HR2.out.sta HMP.out.sta (Ren.refl _ _))
 clear HMP HR2
 go_wp2_with fail
 refine (twin_c pa pn pc c.p w3 HR3.out.rd hpn).mono ?_
 rintro e4 w31 ⟨v4, rfl, hown4, hb4⟩
 clear x3 z3
 have hlow : ∀ k, NR G m lv k → k < w3.heap.size := fun k hk => by
  rcases hk with hk | hk
  ·
   exact Nat.lt_of_lt_of_le (HG0.out k hk) HM3.out.size1
  ·
   exact (HK3.out.ownLt hk).2
 obtain ⟨ta, tn, tc, rfl, hrb4⟩ := own_RB hown4 HR3.out.rd.2.1 hlow
 have hx31 := (hb4.block X (Array.getElem?_eq_some_iff.1 HX3.out).1).trans HX3.out
 have x3 := (cell_of_row w31 X 3 _ _ _ hx31).trans rfl
 have z3 := frozen_of_row w31 X 3 _ _ hx31
 have hk31 := HK3.out.below hb4
 have hm31 := HM3.out.trans (MvR.ofBelow hb4)
 obtain ⟨w4, hw4⟩ : ∃ w4, w4 = w31.setCell ⟨X, 3, none⟩ (.slice ta tn tc) := ⟨_, rfl⟩
 have hoX : ∀ k, k ≠ X → w4.heap[k]? = w31.heap[k]? := fun k hk => by rw [hw4]; exact Below.heap_setCell w31 ⟨X, 3, none⟩ _ k hk
 have hz4 : w4.heap.size = w31.heap.size := by rw [hw4]; simp [World.setCell]
 have hs4 : Sta G w31 w4 := ⟨by omega, fun k hk hn => hoX k fun e => hn (by rw [e]; exact HGX.out)⟩
 have HX4 := Lib.hid (show w4.heap[X]? = some (.cells #[.int .i64 (c.kind : Int), .string c.a, .string c.b, .slice ta tn tc] 94 (0, 0)) from by rw [hw4]; exact row_set hx31 (.slice ta tn tc) (o := 3) (by show 3 < 4; omega))
 have HK4 := Lib.hid (hk31.sta hs4 (Ren.refl _ _))
 have HM4 := Lib.hid (show Mv1 m lv lv w0 w4 from ⟨⟨by rw [hw4]; exact hm31.os, by rw [hw4]; exact hm31.tape, by rw [hw4]; exact hm31.output, by rw [hz4]; exact hm31.size, fun k hk hn => (hoX k (by have := HXE.out; omega)).trans (hm31.block k hk hn), hm31.own⟩, by rw [hz4]; exact hm31.size1⟩)
 have HP4 := Lib.hid (hrb4.sta (w' := w4) ⟨hs4.size, fun k hk hn => hs4.blk k hk fun hg => hn (.inl hg)⟩ (Ren.refl _ _))
 clear HR3 hown4 hb4 hrb4 hx31 hk31 hm31 hoX hz4 hs4 HX3 HK3 HM3 hlow
 go_wp2_with fail
 rw [← hw4]
 clear hw4 x3 z3
 (try dsimp only [Act.put, sT, sZ, sS])
 obtain ⟨w5, hw5⟩ : ∃ w5, w5 = World.drew w4 := ⟨_, rfl⟩
 have HK5 := Lib.hid (show RDK G B m lv A1 w5 from by rw [hw5]; exact HK4.out.below (Below.refl _ _).drew)
 have HM5 := Lib.hid (show Mv1 m lv lv w0 w5 from by rw [hw5]; exact HM4.out.trans (MvR.ofBelow (Below.refl _ _).drew))
 have HP5 := Lib.hid (show RB (NR G m lv) w5 ta tn tc c.p from by rw [hw5]; exact HP4.out.below (Below.refl _ _).drew)
 have hx5 : w5.heap[X]? = some (.cells #[.int .i64 (c.kind : Int), .string c.a, .string c.b, .slice ta tn tc] 94 (0, 0)) := by rw [hw5]; exact HX4.out
 obtain ⟨na, nn, nc, sa, sn, sc, ⟨-, c1, -, -, -, -⟩, hfz, hnow, hsure⟩ := HK5.out.cells
 have HX5 := Lib.hid hx5
 have HS := Lib.hid (show World.cell? w5 ⟨X, 0, none⟩ = some (.int .i64 (c.kind : Int)) ∧ World.cell? w5 ⟨X, 1, none⟩ = some (.string c.a) ∧ World.cell? w5 ⟨X, 2, none⟩ = some (.string c.b) ∧ World.cell? w5 ⟨X, 3, none⟩ = some (.slice ta tn tc) from ⟨(cell_of_row w5 X 0 _ _ _ hx5).trans rfl, (cell_of_row w5 X 1 _ _ _ hx5).trans rfl, (cell_of_row w5 X 2 _ _ _ hx5).trans rfl, (cell_of_row w5 X 3 _ _ _ hx5).trans rfl⟩)
 have HL1 := Lib.hid (run_cell_fl w5 ⟨m, 1, none⟩ _ _ _ c1)
 have HL2 := Lib.hid (fun W (hW : World.cell? W ⟨X, 0, none⟩ = some (.int .i64 (c.kind : Int)) ∧ World.cell? W ⟨X, 1, none⟩ = some (.string c.a) ∧ World.cell? W ⟨X, 2, none⟩ = some (.string c.b) ∧ World.cell? W ⟨X, 3, none⟩ = some (.slice ta tn tc)) => run_cellsD W X _ _ _ _ _ _ hW)
 have HDO5 := Lib.hid (HDO.out (NR G m lv) w5 na nn nc ta tn tc (fun k hk => by rcases hk with hk | hk; exact Nat.lt_of_lt_of_le (HG0.out k hk) HM5.out.size1; exact (HK5.out.ownLt hk).2) hnow HP5.out)
 refine anyH_begin (S := fun W => World.cell? W ⟨X, 0, none⟩ = some (.int .i64 (c.kind : Int)) ∧ World.cell? W ⟨X, 1, none⟩ = some (.string c.a) ∧ World.cell? W ⟨X, 2, none⟩ = some (.string c.b) ∧ World.cell? W ⟨X, 3, none⟩ = some (.slice ta tn tc)) (by kernel_rfl) ?_
 rw [← hw5]
 clear hw5 hx5 c1 hfz hnow hsure HK4 HM4 HP4 HX4 HDO
 refine aP 0 (d := 23) (op := .move (.tmp 0)) (.pointer (some ⟨m, 0, none⟩)) HS.out ?_
 simp only [Act.put, sT, sZ, sS]
 refine aP 1 (d := 24) (op := .move (.tmp 0)) (.pointer (some ⟨m, 0, none⟩)) HS.out ?_
 simp only [Act.put, sT, sZ, sS]
 refine aP 2 (d := 25) (op := .nilCheck (.tmp 24)) (.pointer (some ⟨m, 0, none⟩)) HS.out ?_
 simp only [Act.put, sT, sZ, sS]
 refine aP 3 (d := 26) (op := .fieldAddr 84 (.tmp 25) 1) (.pointer (some ⟨m, 1, none⟩)) HS.out ?_
 simp only [Act.put, sT, sZ, sS]
 refine aL 5 (d := 28) (ty := 94) (x := (.tmp 3)) (p := .pointer (some ⟨X, 0, none⟩)) (.agg #[.int .i64 (c.kind : Int), .string c.a, .string c.b, .slice ta tn tc]) HL2.out HS.out ?_
 simp only [Act.put, sT, sZ, sS]
 refine wpAnyH_all (rs := [4]) (by kernel_rfl) (by simp) ?_
 intro k hk; simp only [List.mem_cons, List.not_mem_nil, or_false] at hk; subst hk
 refine op_atJ 4 (d := some 27) (op := .load 81 (.tmp 26)) (by rfl) ?_
 intro o4 hod4 hoo4
 refine wp_load_g 81 (.tmp 26) hoo4 (.pointer (some ⟨m, 1, none⟩)) (.slice na nn nc) (by rfl) HL1.out ?_
 rw [hod4]
 clear hod4 hoo4
 simp only [Act.put, sT, sZ, sS]
 refine ⟨HS.out, ?_⟩
 refine anyH_callG 6 (d := some 29) (f := 86) (xs := #[(.tmp 27), (.tmp 28)]) (ts := #[81, 94]) (gd := none) (vs := #[.slice na nn nc, .agg #[.int .i64 (c.kind : Int), .string c.a, .string c.b, .slice ta tn tc]]) (by kernel_rfl) (by rfl) wantedP (by go_simp) (by go_simp) (HDO5.out) ?_
 rintro e6 w6 ⟨ya, yl, yc, rfl, hrf6, hb6⟩
 have HK6 := Lib.hid (HK5.out.below hb6)
 have HM6 := Lib.hid (HM5.out.trans (MvR.ofBelow hb6))
 have HP6 := Lib.hid (HP5.out.below hb6)
 have hx6 := (hb6.block X (Array.getElem?_eq_some_iff.1 HX5.out).1).trans HX5.out
 have HX6 := Lib.hid hx6
 have HRF6 := Lib.hid hrf6
 have HS := Lib.hid (show World.cell? w6 ⟨X, 0, none⟩ = some (.int .i64 (c.kind : Int)) ∧ World.cell? w6 ⟨X, 1, none⟩ = some (.string c.a) ∧ World.cell? w6 ⟨X, 2, none⟩ = some (.string c.b) ∧ World.cell? w6 ⟨X, 3, none⟩ = some (.slice ta tn tc) from ⟨(cell_of_row w6 X 0 _ _ _ hx6).trans rfl, (cell_of_row w6 X 1 _ _ _ hx6).trans rfl, (cell_of_row w6 X 2 _ _ _ hx6).trans rfl, (cell_of_row w6 X 3 _ _ _ hx6).trans rfl⟩)
 refine ⟨_, rfl, HS.out, fun _ => ?_⟩
 clear hb6 hx6 hrf6 HK5 HM5 HP5 HX5 HDO5 HL1 HL2
 simp only [Act.put, sT, sZ, sS]
 refine aP 7 (d := 30) (op := .nilCheck (.tmp 23)) (.pointer (some ⟨m, 0, none⟩)) HS.out ?_
 simp only [Act.put, sT, sZ, sS]
 refine aP 8 (d := 31) (op := .fieldAddr 84 (.tmp 30) 1) (.pointer (some ⟨m, 1, none⟩)) HS.out ?_
 simp only [Act.put, sT, sZ, sS]
 obtain ⟨k7, m7⟩ := HK6.out.cellSet 1 (.slice ya yl yc) { A1 with now := doF A1.now c } (na := none) (sa := none) (nn := 0) (nc := 0) (sn := 0) (sc := 0) (fun na nn nc sa sn sc _ h2 h3 => ⟨ya, yl, yc, sa, sn, sc, rfl, HRF6.out, h3⟩) (by omega) rfl
 have HTH := Lib.hid (show w6.there m 1 1 from fun j hj => by
  obtain rfl : j = 0 := by omega
  obtain ⟨_, _, _, _, _, _, ⟨-, d1, -⟩, dz, -⟩ := HK6.out.cells
  exact ⟨by rw [Nat.add_zero, d1]; rfl, dz 1⟩)
 have HK7 := Lib.hid k7
 have HM7 := Lib.hid (HM6.out.trans m7)
 have HXM := Lib.hid (show X ≠ m from by rintro rfl; exact absurd HX6.out (by obtain ⟨_, _, _, _, _, _, h1, _⟩ := HK6.out.hd; rw [h1]; intro e; simp only [Option.some.injEq, Obj.cells.injEq] at e; exact absurd e.2.1 (by decide)))
 have hst7 : ∀ k, k ≠ m → (w6.setCell ⟨m, 1, none⟩ (.slice ya yl yc)).heap[k]? = w6.heap[k]? := fun k hk => Below.heap_setCell w6 ⟨m, 1, none⟩ _ k hk
 have HP7 := Lib.hid (show RB (NR G m lv) (w6.setCell ⟨m, 1, none⟩ (.slice ya yl yc)) ta tn tc c.p from HP6.out.sta ⟨by simp [World.setCell], fun k hk hn => hst7 k fun e => hn (.inr (.inl e))⟩ (Ren.refl _ _))
 have HX7 := Lib.hid ((hst7 X HXM.out).trans HX6.out)
 refine wpAnyH_all (rs := [9]) (by kernel_rfl) (by simp) ?_
 intro k hk; simp only [List.mem_cons, List.not_mem_nil, or_false] at hk; subst hk
 refine op_atJ 9 (d := none) (op := .store 81 (.tmp 31) (.tmp 29)) (by rfl) ?_
 intro o7 hod7 hoo7
 refine wp_store_one 81 (.tmp 31) (.tmp 29) hoo7 m 1 (.slice ya yl yc) (by rfl) (by rfl) HTH.out (by kernel_rfl) (by rfl) (by rfl) ?_
 rw [hod7]
 clear hod7 hoo7 k7 m7 hst7
 simp only [Act.put, sT, sZ, sS]
 obtain ⟨w7, hw7⟩ : ∃ w7, w7 = w6.setCells m 1 [.slice ya yl yc] := ⟨_, rfl⟩
 have HK7 := Lib.hid (show RDK G B m lv { A1 with now := doF A1.now c } w7 from by rw [hw7]; exact HK7.out)
 have HM7 := Lib.hid (show Mv1 m lv lv w0 w7 from by rw [hw7]; exact HM7.out)
 have HP7 := Lib.hid (show RB (NR G m lv) w7 ta tn tc c.p from by rw [hw7]; exact HP7.out)
 have hx7 : w7.heap[X]? = some (.cells #[.int .i64 (c.kind : Int), .string c.a, .string c.b, .slice ta tn tc] 94 (0, 0)) := by rw [hw7]; exact HX7.out
 rw [← hw7]
 have HX7 := Lib.hid hx7
 refine ⟨⟨(cell_of_row w7 X 0 _ _ _ hx7).trans rfl, (cell_of_row w7 X 1 _ _ _ hx7).trans rfl, (cell_of_row w7 X 2 _ _ _ hx7).trans rfl, (cell_of_row w7 X 3 _ _ _ hx7).trans rfl⟩, ?_⟩
 refine wpAnyH_done (by kernel_rfl) ?_ _
 clear HS hw7 hx7 HTH HK6 HM6 HP6 HX6 HRF6
 go_wp2_with fail
 (try dsimp only [Act.put, sT, sZ, sS])
 obtain ⟨A2, hA2⟩ : ∃ A2 : Ad, A2 = { A1 with now := doF A1.now c } := ⟨_, rfl⟩
 rw [← hA2] at HK7
 have HA2 := Lib.hid hA2
 obtain ⟨w8, hw8⟩ : ∃ w8, w8 = World.drew w7 := ⟨_, rfl⟩
 have HK8 := Lib.hid (show RDK G B m lv A2 w8 from by rw [hw8]; exact HK7.out.below (Below.refl _ _).drew)
 have HM8 := Lib.hid (show Mv1 m lv lv w0 w8 from by rw [hw8]; exact HM7.out.trans (MvR.ofBelow (Below.refl _ _).drew))
 have HP8 := Lib.hid (show RB (NR G m lv) w8 ta tn tc c.p from by rw [hw8]; exact HP7.out.below (Below.refl _ _).drew)
 have hx8 : w8.heap[X]? = some (.cells #[.int .i64 (c.kind : Int), .string c.a, .string c.b, .slice ta tn tc] 94 (0, 0)) := by rw [hw8]; exact HX7.out
 have HX8 := Lib.hid hx8
 have HF8 := Lib.hid (show ∀ k, G k → k < w8.heap.size from fun k hk => Nat.lt_of_lt_of_le (HG0.out k hk) HM8.out.size1)
 have HXS := Lib.hid (show X < w8.heap.size from (Array.getElem?_eq_some_iff.1 hx8).1)
 have HXN := Lib.hid (show ¬ OwnR m lv X from fun ho => by
  rcases ho with rfl | ho
  ·
   obtain ⟨_, _, _, _, _, _, h1, _⟩ := HK8.out.hd
   rw [h1] at hx8
   simp only [Option.some.injEq, Obj.cells.injEq] at hx8
   exact absurd hx8.2.1 (by decide)
  ·
   exact HXL.out ho)
 obtain ⟨la, ln, lc, hlv⟩ : ∃ la ln lc, lv = .slice la ln lc := by
  obtain ⟨ps, _, h2, _⟩ := HK8.out.hl
  rcases h2.2 with ⟨h1, _⟩ | ⟨g, cap, cur, h1, _⟩
  ·
   exact ⟨_, _, _, h1⟩
  ·
   exact ⟨_, _, _, h1⟩
 have HLV := Lib.hid hlv
 have HLL := Lib.hid (show A2.loose.length + 1 ≤ 1000000000 from by rw [hA2]; show A1.loose.length + 1 ≤ _; rw [HN1.out.2]; exact hll)
 have HS := Lib.hid (show World.cell? w8 ⟨X, 0, none⟩ = some (.int .i64 (c.kind : Int)) ∧ World.cell? w8 ⟨X, 1, none⟩ = some (.string c.a) ∧ World.cell? w8 ⟨X, 2, none⟩ = some (.string c.b) ∧ World.cell? w8 ⟨X, 3, none⟩ = some (.slice ta tn tc) from ⟨(cell_of_row w8 X 0 _ _ _ hx8).trans rfl, (cell_of_row w8 X 1 _ _ _ hx8).trans rfl, (cell_of_row w8 X 2 _ _ _ hx8).trans rfl, (cell_of_row w8 X 3 _ _ _ hx8).trans rfl⟩)
 have HL2 := Lib.hid (fun W (hW : World.cell? W ⟨X, 0, none⟩ = some (.int .i64 (c.kind : Int)) ∧ World.cell? W ⟨X, 1, none⟩ = some (.string c.a) ∧ World.cell? W ⟨X, 2, none⟩ = some (.string c.b) ∧ World.cell? W ⟨X, 3, none⟩ = some (.slice ta tn tc)) => run_cellsD W X _ _ _ _ _ _ hW)
 have HC3 := Lib.hid (show w8.cell? ⟨m, 3, none⟩ = some (.slice la ln lc) from by
  obtain ⟨_, _, _, _, _, _, ⟨-, -, -, d3, -⟩, -⟩ := HK8.out.cells
  rw [d3, hlv])
 refine anyH_begin (S := fun W => World.cell? W ⟨X, 0, none⟩ = some (.int .i64 (c.kind : Int)) ∧ World.cell? W ⟨X, 1, none⟩ = some (.string c.a) ∧ World.cell? W ⟨X, 2, none⟩ = some (.string c.b) ∧ World.cell? W ⟨X, 3, none⟩ = some (.slice ta tn tc)) (by kernel_rfl) ?_
 rw [← hw8]
 clear hA2 hw8 hx8 hlv HK7 HM7 HP7 HX7
 refine aP 0 (d := 32) (op := .move (.tmp 0)) (.pointer (some ⟨m, 0, none⟩)) HS.out ?_
 simp only [Act.put, sT, sZ, sS]
 refine aP 1 (d := 33) (op := .move (.tmp 0)) (.pointer (some ⟨m, 0, none⟩)) HS.out ?_
 simp only [Act.put, sT, sZ, sS]
 refine aP 2 (d := 34) (op := .nilCheck (.tmp 33)) (.pointer (some ⟨m, 0, none⟩)) HS.out ?_
 simp only [Act.put, sT, sZ, sS]
 refine aP 3 (d := 35) (op := .fieldAddr 84 (.tmp 34) 3) (.pointer (some ⟨m, 3, none⟩)) HS.out ?_
 simp only [Act.put, sT, sZ, sS]
 refine aL 5 (d := 37) (ty := 94) (x := (.tmp 3)) (p := .pointer (some ⟨X, 0, none⟩)) (.agg #[.int .i64 (c.kind : Int), .string c.a, .string c.b, .slice ta tn tc]) HL2.out HS.out ?_
 simp only [Act.put, sT, sZ, sS]
 refine wpAnyH_all (rs := [4, 6]) (by kernel_rfl) (by simp) ?_
 intro k hk
 simp only [List.mem_cons, List.not_mem_nil, or_false] at hk
 rcases hk with rfl | rfl
 ·
  refine op_atJ 4 (d := some 36) (op := .load 82 (.tmp 35)) (by rfl) ?_
  intro o4 hod4 hoo4
  refine wp_load_g 82 (.tmp 35) hoo4 (.pointer (some ⟨m, 3, none⟩)) (.slice la ln lc) (by rfl) (run_cell_cs _ ⟨m, 3, none⟩ _ _ _ (HC3.out)) ?_
  rw [hod4]
  clear hod4 hoo4
  simp only [Act.put, sT, sZ, sS]
  refine ⟨HS.out, ?_⟩
  refine wpAnyH_all (rs := [6]) (by kernel_rfl) (by simp) ?_
  intro k hk; simp only [List.mem_cons, List.not_mem_nil, or_false] at hk; subst hk
  refine op_atJ 6 (d := some 38) (op := .buildSlice 82 1 #[(0, (.tmp 37))]) (by rfl) ?_
  intro o5 hod5 hoo5
  refine wp_bsD (.tmp 37) hoo5 _ _ _ _ _ _ (by rfl) ?_
  rw [hod5]
  clear hod5 hoo5
  simp only [Act.put, sT, sZ, sS]
  refine ⟨(show World.cell? _ ⟨X, 0, none⟩ = some (.int .i64 (c.kind : Int)) ∧ World.cell? _ ⟨X, 1, none⟩ = some (.string c.a) ∧ World.cell? _ ⟨X, 2, none⟩ = some (.string c.b) ∧ World.cell? _ ⟨X, 3, none⟩ = some (.slice ta tn tc) from by obtain ⟨y0, y1, y2, y3⟩ := HS.out; have hb := (Below.refl _ _).alloc (Nat.le_refl w8.heap.size) (.cells #[.int .i64 (c.kind : Int), .string c.a, .string c.b, .slice ta tn tc] 94); exact ⟨(hb.cell (p := ⟨X, 0, none⟩) HXS.out).trans y0, (hb.cell (p := ⟨X, 1, none⟩) HXS.out).trans y1, (hb.cell (p := ⟨X, 2, none⟩) HXS.out).trans y2, (hb.cell (p := ⟨X, 3, none⟩) HXS.out).trans y3⟩), ?_⟩
  clear HS
  refine wpAnyH_all (rs := [7]) (by kernel_rfl) (by simp) ?_
  intro k hk; simp only [List.mem_cons, List.not_mem_nil, or_false] at hk; subst hk
  refine op_atJ 7 (d := some 39) (op := .call { callee := .builtin .append, args := #[(.tmp 36), (.tmp 38)], argTypes := #[82, 82] }) (by rfl) ?_
  intro o6 hod6 hoo6
  refine wp_pushD (.tmp 36) (.tmp 38) hoo6 B m lv A2 c ta tn tc HK8.out HF8.out ⟨_, _, _, rfl, HP8.out⟩ HLV.out.symm (by rfl) HLL.out ?_
  intro va vn vc w9 c9 f9 hk9 hm9
  have HK9 := Lib.hid hk9
  have HM9 := Lib.hid (HM8.out.trans hm9)
  have HT7 := Lib.hid (show w9.there m 3 1 from fun j hj => by
   obtain rfl : j = 0 := by omega
   exact ⟨by rw [Nat.add_zero, c9]; rfl, f9⟩)
  have HS := Lib.hid (show World.cell? w9 ⟨X, 0, none⟩ = some (.int .i64 (c.kind : Int)) ∧ World.cell? w9 ⟨X, 1, none⟩ = some (.string c.a) ∧ World.cell? w9 ⟨X, 2, none⟩ = some (.string c.b) ∧ World.cell? w9 ⟨X, 3, none⟩ = some (.slice ta tn tc) from by
   have e9 := hm9.block X HXS.out HXN.out
   rw [Below.heap_setCell w9 ⟨m, 3, none⟩ _ X (show X ≠ m from fun e => HXN.out (.inl e))] at e9
   have q : ∀ i, w9.cell? ⟨X, i, none⟩ = w8.cell? ⟨X, i, none⟩ := fun i => World.cell?_of_block e9
   have hx := HX8.out
   exact ⟨(q 0).trans ((cell_of_row w8 X 0 _ _ _ hx).trans rfl), (q 1).trans ((cell_of_row w8 X 1 _ _ _ hx).trans rfl), (q 2).trans ((cell_of_row w8 X 2 _ _ _ hx).trans rfl), (q 3).trans ((cell_of_row w8 X 3 _ _ _ hx).trans rfl)⟩)
  have HXD := Lib.hid (show X ≠ m from fun e => HXN.out (.inl e))
  rw [hod6]
  clear hod6 hoo6 hk9 hm9 c9 f9
  simp only [Act.put, sT, sZ, sS]
  refine ⟨HS.out, ?_⟩
  refine aP 8 (d := 40) (op := .nilCheck (.tmp 32)) (.pointer (some ⟨m, 0, none⟩)) HS.out ?_
  simp only [Act.put, sT, sZ, sS]
  refine aP 9 (d := 41) (op := .fieldAddr 84 (.tmp 40) 3) (.pointer (some ⟨m, 3, none⟩)) HS.out ?_
  simp only [Act.put, sT, sZ, sS]
  refine wpAnyH_all (rs := [10]) (by kernel_rfl) (by simp) ?_
  intro k hk; simp only [List.mem_cons, List.not_mem_nil, or_false] at hk; subst hk
  refine op_atJ 10 (d := none) (op := .store 82 (.tmp 41) (.tmp 39)) (by rfl) ?_
  intro o7 hod7 hoo7
  refine wp_store_one 82 (.tmp 41) (.tmp 39) hoo7 m 3 (.slice va vn vc) (by rfl) (by rfl) HT7.out (by kernel_rfl) (by rfl) (by rfl) ?_
  rw [hod7]
  clear hod7 hoo7
  simp only [Act.put, sT, sZ, sS]
  refine ⟨by obtain ⟨y0, y1, y2, y3⟩ := HS.out; have q : ∀ i, (w9.setCells m 3 [.slice va vn vc]).cell? ⟨X, i, none⟩ = w9.cell? ⟨X, i, none⟩ := fun i => World.cell?_of_block (one_heap HXD.out); exact ⟨(q 0).trans y0, (q 1).trans y1, (q 2).trans y2, (q 3).trans y3⟩, ?_⟩
  refine wpAnyH_done (by kernel_rfl) ?_ _
  clear HS HT7 HL2
  obtain ⟨w10, hw10⟩ : ∃ w10, w10 = w9.setCells m 3 [.slice va vn vc] := ⟨_, rfl⟩
  have HK10 := Lib.hid (show RDK G B m (.slice va vn vc) { A2 with loose := A2.loose ++ [c] } w10 from by rw [hw10]; exact HK9.out)
  have HM10 := Lib.hid (show Mv1 m lv (.slice va vn vc) w0 w10 from by rw [hw10]; exact HM9.out)
  rw [← hw10]
  clear hw10 HK9 HM9 HK8 HM8
  go_wp2_with fail
  go_ret
  have hk10 := HK10.out
  rw [HDID.out A2 HA2.out] at hk10
  exact ⟨by first | rfl | trivial, _, hk10.weak HWK.out, HM10.out.toMvR⟩
 ·
  refine op_atJ 6 (d := some 38) (op := .buildSlice 82 1 #[(0, (.tmp 37))]) (by rfl) ?_
  intro o5 hod5 hoo5
  refine wp_bsD (.tmp 37) hoo5 _ _ _ _ _ _ (by rfl) ?_
  rw [hod5]
  clear hod5 hoo5
  simp only [Act.put, sT, sZ, sS]
  refine ⟨(show World.cell? _ ⟨X, 0, none⟩ = some (.int .i64 (c.kind : Int)) ∧ World.cell? _ ⟨X, 1, none⟩ = some (.string c.a) ∧ World.cell? _ ⟨X, 2, none⟩ = some (.string c.b) ∧ World.cell? _ ⟨X, 3, none⟩ = some (.slice ta tn tc) from by obtain ⟨y0, y1, y2, y3⟩ := HS.out; have hb := (Below.refl _ _).alloc (Nat.le_refl w8.heap.size) (.cells #[.int .i64 (c.kind : Int), .string c.a, .string c.b, .slice ta tn tc] 94); exact ⟨(hb.cell (p := ⟨X, 0, none⟩) HXS.out).trans y0, (hb.cell (p := ⟨X, 1, none⟩) HXS.out).trans y1, (hb.cell (p := ⟨X, 2, none⟩) HXS.out).trans y2, (hb.cell (p := ⟨X, 3, none⟩) HXS.out).trans y3⟩), ?_⟩
  refine wpAnyH_all (rs := [4]) (by kernel_rfl) (by simp) ?_
  intro k hk; simp only [List.mem_cons, List.not_mem_nil, or_false] at hk; subst hk
  refine op_atJ 4 (d := some 36) (op := .load 82 (.tmp 35)) (by rfl) ?_
  intro o4 hod4 hoo4
  refine wp_load_g 82 (.tmp 35) hoo4 (.pointer (some ⟨m, 3, none⟩)) (.slice la ln lc) (by rfl) (run_cell_cs _ ⟨m, 3, none⟩ _ _ _ (((Below.refl _ _).alloc (Nat.le_refl w8.heap.size) (.cells #[.int .i64 (c.kind : Int), .string c.a, .string c.b, .slice ta tn tc] 94)).cell (p := ⟨m, 3, none⟩) HK8.out.lt |>.trans HC3.out)) ?_
  rw [hod4]
  clear hod4 hoo4
  simp only [Act.put, sT, sZ, sS]
  refine ⟨(show World.cell? _ ⟨X, 0, none⟩ = some (.int .i64 (c.kind : Int)) ∧ World.cell? _ ⟨X, 1, none⟩ = some (.string c.a) ∧ World.cell? _ ⟨X, 2, none⟩ = some (.string c.b) ∧ World.cell? _ ⟨X, 3, none⟩ = some (.slice ta tn tc) from by obtain ⟨y0, y1, y2, y3⟩ := HS.out; have hb := (Below.refl _ _).alloc (Nat.le_refl w8.heap.size) (.cells #[.int .i64 (c.kind : Int), .string c.a, .string c.b, .slice ta tn tc] 94); exact ⟨(hb.cell (p := ⟨X, 0, none⟩) HXS.out).trans y0, (hb.cell (p := ⟨X, 1, none⟩) HXS.out).trans y1, (hb.cell (p := ⟨X, 2, none⟩) HXS.out).trans y2, (hb.cell (p := ⟨X, 3, none⟩) HXS.out).trans y3⟩), ?_⟩
  clear HS
  refine wpAnyH_all (rs := [7]) (by kernel_rfl) (by simp) ?_
  intro k hk; simp only [List.mem_cons, List.not_mem_nil, or_false] at hk; subst hk
  refine op_atJ 7 (d := some 39) (op := .call { callee := .builtin .append, args := #[(.tmp 36), (.tmp 38)], argTypes := #[82, 82] }) (by rfl) ?_
  intro o6 hod6 hoo6
  refine wp_pushD (.tmp 36) (.tmp 38) hoo6 B m lv A2 c ta tn tc HK8.out HF8.out ⟨_, _, _, rfl, HP8.out⟩ HLV.out.symm (by rfl) HLL.out ?_
  intro va vn vc w9 c9 f9 hk9 hm9
  have HK9 := Lib.hid hk9
  have HM9 := Lib.hid (HM8.out.trans hm9)
  have HT7 := Lib.hid (show w9.there m 3 1 from fun j hj => by
   obtain rfl : j = 0 := by omega
   exact ⟨by rw [Nat.add_zero, c9]; rfl, f9⟩)
  have HS := Lib.hid (show World.cell? w9 ⟨X, 0, none⟩ = some (.int .i64 (c.kind : Int)) ∧ World.cell? w9 ⟨X, 1, none⟩ = some (.string c.a) ∧ World.cell? w9 ⟨X, 2, none⟩ = some (.string c.b) ∧ World.cell? w9 ⟨X, 3, none⟩ = some (.slice ta tn tc) from by
   have e9 := hm9.block X HXS.out HXN.out
   rw [Below.heap_setCell w9 ⟨m, 3, none⟩ _ X (show X ≠ m from fun e => HXN.out (.inl e))] at e9
   have q : ∀ i, w9.cell? ⟨X, i, none⟩ = w8.cell? ⟨X, i, none⟩ := fun i => World.cell?_of_block e9
   have hx := HX8.out
   exact ⟨(q 0).trans ((cell_of_row w8 X 0 _ _ _ hx).trans rfl), (q 1).trans ((cell_of_row w8 X 1 _ _ _ hx).trans rfl), (q 2).trans ((cell_of_row w8 X 2 _ _ _ hx).trans rfl), (q 3).trans ((cell_of_row w8 X 3 _ _ _ hx).trans rfl)⟩)
  have HXD := Lib.hid (show X ≠ m from fun e => HXN.out (.inl e))
  rw [hod6]
  clear hod6 hoo6 hk9 hm9 c9 f9
  simp only [Act.put, sT, sZ, sS]
  refine ⟨HS.out, ?_⟩
  refine aP 8 (d := 40) (op := .nilCheck (.tmp 32)) (.pointer (some ⟨m, 0, none⟩)) HS.out ?_
  simp only [Act.put, sT, sZ, sS]
  refine aP 9 (d := 41) (op := .fieldAddr 84 (.tmp 40) 3) (.pointer (some ⟨m, 3, none⟩)) HS.out ?_
  simp only [Act.put, sT, sZ, sS]
  refine wpAnyH_all (rs := [10]) (by kernel_rfl) (by simp) ?_
  intro k hk; simp only [List.mem_cons, List.not_mem_nil, or_false] at hk; subst hk
  refine op_atJ 10 (d := none) (op := .store 82 (.tmp 41) (.tmp 39)) (by rfl) ?_
  intro o7 hod7 hoo7
  refine wp_store_one 82 (.tmp 41) (.tmp 39) hoo7 m 3 (.slice va vn vc) (by rfl) (by rfl) HT7.out (by kernel_rfl) (by rfl) (by rfl) ?_
  rw [hod7]
  clear hod7 hoo7
  simp only [Act.put, sT, sZ, sS]
  refine ⟨by obtain ⟨y0, y1, y2, y3⟩ := HS.out; have q : ∀ i, (w9.setCells m 3 [.slice va vn vc]).cell? ⟨X, i, none⟩ = w9.cell? ⟨X, i, none⟩ := fun i => World.cell?_of_block (one_heap HXD.out); exact ⟨(q 0).trans y0, (q 1).trans y1, (q 2).trans y2, (q 3).trans y3⟩, ?_⟩
  refine wpAnyH_done (by kernel_rfl) ?_ _
  clear HS HT7 HL2
  obtain ⟨w10, hw10⟩ : ∃ w10, w10 = w9.setCells m 3 [.slice va vn vc] := ⟨_, rfl⟩
  have HK10 := Lib.hid (show RDK G B m (.slice va vn vc) { A2 with loose := A2.loose ++ [c] } w10 from by rw [hw10]; exact HK9.out)
  have HM10 := Lib.hid (show Mv1 m lv (.slice va vn vc) w0 w10 from by rw [hw10]; exact HM9.out)
  rw [← hw10]
  clear hw10 HK9 HM9 HK8 HM8
  go_wp2_with fail
  go_ret
  have hk10 := HK10.out
  rw [HDID.out A2 HA2.out] at hk10
  exact ⟨by first | rfl | trivial, _, hk10.weak HWK.out, HM10.out.toMvR⟩
end Go.Proofs.YtihbgigledmliaaGreat
namespace Go.Proofs.YtihbgigledmliaaGreat
open Go.RowKit
set_option linter.unusedVariables false
end Go.Proofs.YtihbgigledmliaaGreat

namespace Go.Proofs.YtihbgigledmliaaGreat
open Go.RowKit
set_option linter.unusedVariables false
theorem xcells {w : World} {X : Nat} {k : Int} {s t : ByteArray} {v : Value} (hh : w.heap[X]? = some (.cells #[.int .i64 k, .string s, .string t, v] 94 (0, 0))) : w.cell? ⟨X, 0, none⟩ = some (.int .i64 k) ∧ w.cell? ⟨X, 1, none⟩ = some (.string s) ∧ w.cell? ⟨X, 2, none⟩ = some (.string t) ∧ w.cell? ⟨X, 3, none⟩ = some v :=
 ⟨(cell_of_row w X 0 _ _ _ hh).trans rfl, (cell_of_row w X 1 _ _ _ hh).trans rfl, (cell_of_row w X 2 _ _ _ hh).trans rfl, (cell_of_row w X 3 _ _ _ hh).trans rfl⟩
theorem idx_of {l : Fls} {s : ByteArray} {z : List Nat} (h : lookF l s = some z) : ∃ k : Nat, idxF l s = some k ∧ l[k]? = some (s, z) := by
 cases e : idxF l s with
 | none => rw [idxF_none.1 e] at h; cases h
 | some k =>
  obtain ⟨z', h1, h2⟩ := idxF_some e
  rw [h] at h2
  cases h2
  exact ⟨k, rfl, h1⟩
set_option maxRecDepth 100000 in
set_option maxHeartbeats 8000000 in
theorem rdo2_c {N : Nat → Prop} {w : World} {a : Option Addr} {len cap : Nat} {l : Fls} (h : RF N w a len l) (hN : ∀ k, N k → k < w.heap.size) (s t : ByteArray) (ta : Option Addr) (tn tc : Nat) {p : List Nat} (hm : len ≤ 100000000) :
  Calls Tryz.prog 86 #[.slice a len cap, .agg #[.int .i64 2, .string s, .string t, .slice ta tn tc]] w (RetF N (doF l ⟨2, s, t, p⟩) w) := by
 rw [doF2]
 obtain ⟨X, hX⟩ : ∃ X, X = w.heap.size := ⟨_, rfl⟩
 obtain ⟨w1, hw⟩ : ∃ w1, w1 = w.alloc (.cells #[.int .i64 2, .string s, .string t, .slice ta tn tc] 94) := ⟨_, rfl⟩
 have hb1 : Below w.heap.size w w1 := by rw [hw]; exact (Below.refl _ _).alloc (Nat.le_refl _) _
 have hh : w1.heap[X]? = some (.cells #[.int .i64 2, .string s, .string t, .slice ta tn tc] 94 (0, 0)) := by rw [hw, hX]; exact heap_alloc_new w _
 have x0 := (cell_of_row w1 X 0 _ _ _ hh).trans rfl
 have x1 := (cell_of_row w1 X 1 _ _ _ hh).trans rfl
 have x2 := (cell_of_row w1 X 2 _ _ _ hh).trans rfl
 have x3 := (cell_of_row w1 X 3 _ _ _ hh).trans rfl
 have hrf := h.below hb1
 have hN1 : ∀ k, N k → k < w1.heap.size := fun k hk => by have := hN k hk; have := hb1.size; omega
 have HB1 := Lib.hid hb1
 have HH := Lib.hid hh
 have HW := Lib.hid (rwithout_c (cap := cap) hrf hN1 s hm)
 clear h hN hb1 hh hrf hN1 x2 x3
 go_enter Tryz.func86, Tryz.ntmps86
 go_upto_region 1 with fail
 rw [← hX]
 rw [← hw]
 clear hX hw
 go_wp2_with fail
 refine HW.out.mono ?_
 rintro e2 w2 ⟨a2, l2, k2, rfl, h2, hb2⟩
 have H2 := Lib.hid h2
 have HB2 := Lib.hid (HB1.out.trans (hb2.mono HB1.out.size))
 clear h2 hb2 HW x0 x1
 go_wp2_with fail
 go_ret
 exact ⟨_, _, _, rfl, H2.out, HB2.out⟩
set_option maxRecDepth 100000 in
set_option maxHeartbeats 8000000 in
theorem rdo1_c {N : Nat → Prop} {w : World} {a : Option Addr} {len cap : Nat} {l : Fls} (h : RF N w a len l) (hN : ∀ k, N k → k < w.heap.size) (s t : ByteArray) (ta : Option Addr) (tn tc : Nat) {p : List Nat} (hm : len ≤ 100000000) {z : List Nat} (hz : lookF l s = some z) (hp : RB N w ta tn tc p) (hb : z.length + p.length ≤ 1000000000) :
  Calls Tryz.prog 86 #[.slice a len cap, .agg #[.int .i64 1, .string s, .string t, .slice ta tn tc]] w (RetF N (doF l ⟨1, s, t, p⟩) w) := by
 rw [doF1, hz]
 show Calls _ _ _ _ (RetF N (withF (withoutF l s) (s, z ++ p)) w)
 obtain ⟨X, hX⟩ : ∃ X, X = w.heap.size := ⟨_, rfl⟩
 obtain ⟨w1, hw⟩ : ∃ w1, w1 = w.alloc (.cells #[.int .i64 1, .string s, .string t, .slice ta tn tc] 94) := ⟨_, rfl⟩
 have hb1 : Below w.heap.size w w1 := by rw [hw]; exact (Below.refl _ _).alloc (Nat.le_refl _) _
 have hh : w1.heap[X]? = some (.cells #[.int .i64 1, .string s, .string t, .slice ta tn tc] 94 (0, 0)) := by rw [hw, hX]; exact heap_alloc_new w _
 have x0 := (cell_of_row w1 X 0 _ _ _ hh).trans rfl
 have x1 := (cell_of_row w1 X 1 _ _ _ hh).trans rfl
 have x2 := (cell_of_row w1 X 2 _ _ _ hh).trans rfl
 have x3 := (cell_of_row w1 X 3 _ _ _ hh).trans rfl
 have hrf := h.below hb1
 have hN1 : ∀ k, N k → k < w1.heap.size := fun k hk => by have := hN k hk; have := hb1.size; omega
 have HB1 := Lib.hid hb1
 have HH := Lib.hid hh
 obtain ⟨k, hk, hlk⟩ := idx_of hz
 have hlen := h.ln
 have hkl : k < len := by have := (List.getElem?_eq_some_iff.1 hlk).1; omega
 obtain ⟨b, o, f, ra, rn, rc, rfl, hbl, hf, c0, c1, hrb⟩ := hrf.at hkl
 rw [hlk] at hf
 cases hf
 have hix := fun W => run_file_idx W b o len cap k hkl
 have HFI := Lib.hid (rfind_c (cap := cap) hrf s (by omega))
 rw [show ixI (idxF l s) = (k : Int) by rw [hk]; rfl] at HFI
 have HP1 := Lib.hid (hp.below hb1)
 have HRF1 := Lib.hid hrf
 have HRB1 := Lib.hid hrb
 have HN1 := Lib.hid hN1
 have HTW := Lib.hid (twin_c ra rn rc z w1 hrb.rd (by have := hrb.rd.1; simp only at this; omega))
 have i0 : (0 : Int) ≤ (k : Int) := by omega
 have i1 : (k : Int) < (len : Int) := by omega
 have hzb := hrb.rd.2.1
 have HWZ := Lib.hid hN
 have HC1 := Lib.hid c1
 have HIX := Lib.hid hix
 clear h hN hb1 hh hrf hN1 hk hlk hlen hz hp x2 hrb c0 c1 hix
 go_enter Tryz.func86, Tryz.ntmps86
 go_upto_region 1 with fail
 rw [← hX]
 rw [← hw]
 clear hX hw
 go_wp2_with fail
 refine HFI.out.mono ?_
 rintro e2 w2 ⟨rfl, rfl⟩
 have c1 := HC1.out
 have hix := HIX.out
 clear x0 x1 x3
 go_wp2_with fail
 refine HTW.out.mono ?_
 rintro e3 w3 ⟨v3, rfl, hown3, hb3⟩
 have hx3 := (hb3.block X (Array.getElem?_eq_some_iff.1 HH.out).1).trans HH.out
 obtain ⟨x0, x1, x2, x3⟩ := xcells hx3
 have hp3 := HP1.out.below hb3
 have hsz3 := hb3.size
 have HX3 := Lib.hid hx3
 have HP3 := Lib.hid hp3
 have HO3 := Lib.hid hown3
 have HB3 := Lib.hid hb3
 have hzl : z.length + p.length ≤ 140737488355328 := by omega
 have hp3n := hp3.nil
 clear hown3 hb3 hx3 hp3 HTW HFI hix c1
 obtain ⟨B0, hB0⟩ : ∃ B0, B0 = w2.heap.size := ⟨_, rfl⟩
 go_wp2_with (at_builtin; (refine wpList_catR rfl _ _ rfl w2.heap.size v3 z p rfl HO3.out hsz3 ta tn tc rfl HP3.out.rd hp3n hzb hzl ?_); intro a4 L4 c4 w4 hl4 hlc4 hcm4 hn4 hrd4 hown4 hb4; have HO4 := Lib.hid hown4; have HRD4 := Lib.hid hrd4; have HB4 := Lib.hid (HB3.out.trans hb4); have HL4 := Lib.hid hl4; clear hl4 hlc4 hcm4 hn4 hrd4 hown4 hb4 x0 x1 x2 x3 HO3 hp3n)
 have hx4 : w4.heap[X]? = some (.cells #[.int .i64 1, .string s, .string t, .slice ta tn tc] 94 (0, 0)) := (HB4.out.block X (Array.getElem?_eq_some_iff.1 HH.out).1).trans HH.out
 obtain ⟨x0, x1, x2, x3⟩ := xcells hx4
 obtain ⟨ta4, tn4, tc4, he4, hrb4⟩ := own_RB (N := N) HO4.out HRD4.out.2.1 (fun k hk => HN1.out k hk)
 obtain ⟨rfl, rfl, rfl⟩ := Value.slice.inj he4
 have HRB4 := Lib.hid hrb4
 have HX4 := Lib.hid hx4
 have HW1 := Lib.hid (rwithout_c (cap := cap) ((HRF1.out.below HB4.out).below (Below.refl _ _).drew) (fun k hk => Nat.lt_of_lt_of_le (HN1.out k hk) HB4.out.size) s hm)
 have HLL := Lib.hid (And.intro (without_len l s) HRF1.out.ln)
 clear he4 hrb4 hx4
 (try dsimp only [Act.put, sT, sZ, sS])
 have HS := Lib.hid (show World.cell? (World.drew w4) ⟨X, 1, none⟩ = some (.string s) from x1)
 refine anyH_begin (S := fun W => World.cell? W ⟨X, 1, none⟩ = some (.string s)) (by kernel_rfl) ?_
 have HL1 := Lib.hid (fun W (hW : World.cell? W ⟨X, 1, none⟩ = some (.string s)) => run_cell_s W ⟨X, 1, none⟩ _ hW)
 refine aP 0 (d := 34) (op := .move (.tmp 0)) (.slice (some ⟨b, o, none⟩) len cap) HS.out ?_
 simp only [Act.put, sT, sZ, sS]
 refine aP 1 (d := 35) (op := .fieldAddr 94 (.tmp 3) 1) (.pointer (some ⟨X, 1, none⟩)) HS.out ?_
 simp only [Act.put, sT, sZ, sS]
 refine aL 2 (d := 36) (ty := 9) (x := (.tmp 35)) (p := .pointer (some ⟨X, 1, none⟩)) (.string s) HL1.out HS.out ?_
 simp only [Act.put, sT, sZ, sS]
 refine aP 4 (d := 38) (op := .fieldAddr 94 (.tmp 3) 1) (.pointer (some ⟨X, 1, none⟩)) HS.out ?_
 simp only [Act.put, sT, sZ, sS]
 refine aL 5 (d := 39) (ty := 9) (x := (.tmp 38)) (p := .pointer (some ⟨X, 1, none⟩)) (.string s) HL1.out HS.out ?_
 simp only [Act.put, sT, sZ, sS]
 refine aP 6 (d := 40) (op := .move (.tmp 6)) (.slice a4 L4 c4) HS.out ?_
 simp only [Act.put, sT, sZ, sS]
 refine aP 7 (d := 41) (op := .build 96 #[(0, (.tmp 39)), (1, (.tmp 40))]) (.agg #[.string s, .slice a4 L4 c4]) HS.out ?_
 simp only [Act.put, sT, sZ, sS]
 refine anyH_callG 3 (d := some 37) (f := 118) (xs := #[(.tmp 34), (.tmp 36)]) (ts := #[81, 9]) (gd := none) (vs := #[.slice (some ⟨b, o, none⟩) len cap, .string s]) (by kernel_rfl) (by rfl) wantedP (by go_simp) (by go_simp) (HW1.out) ?_
 rintro e5 w5 ⟨a5, l5, k5, rfl, h5, hb5⟩
 have HS := Lib.hid (show World.cell? w5 ⟨X, 1, none⟩ = some (.string s) from (hb5.cell (p := ⟨X, 1, none⟩) (by have := (Array.getElem?_eq_some_iff.1 HX4.out).1; exact this)).trans x1)
 have H5 := Lib.hid h5
 have HB5 := Lib.hid hb5
 clear h5 hb5
 refine ⟨_, rfl, HS.out, fun _ => ?_⟩
 have HW2 := Lib.hid (rwith_c (f := (s, z ++ p)) (cap := k5) H5.out (fun k hk => Nat.lt_of_lt_of_le (Nat.lt_of_lt_of_le (HN1.out k hk) HB4.out.size) HB5.out.size) ((HRB4.out.below (Below.refl _ _).drew).below HB5.out) (by have := H5.out.ln; have := HLL.out; omega))
 simp only [Act.put, sT, sZ, sS]
 refine anyH_callG 8 (d := some 42) (f := 117) (xs := #[(.tmp 37), (.tmp 41)]) (ts := #[81, 96]) (gd := none) (vs := #[.slice a5 l5 k5, .agg #[.string s, .slice a4 L4 c4]]) (by kernel_rfl) (by rfl) wantedP (by go_simp) (by go_simp) (HW2.out) ?_
 rintro e6 w6 ⟨a6, l6, k6, rfl, h6, hb6⟩
 have HS := Lib.hid (show World.cell? w6 ⟨X, 1, none⟩ = some (.string s) from (hb6.cell (p := ⟨X, 1, none⟩) (by have h1 := (Array.getElem?_eq_some_iff.1 HX4.out).1; have h2 := HB5.out.size; exact Nat.lt_of_lt_of_le h1 h2)).trans HS.out)
 have H6 := Lib.hid h6
 have HB6 := Lib.hid hb6
 clear h6 hb6
 refine ⟨_, rfl, HS.out, fun _ => ?_⟩
 simp only [Act.put, sT, sZ, sS]
 refine aP 9 (d := 4) (op := .assign (.tmp 42)) (.slice a6 l6 k6) HS.out ?_
 simp only [Act.put, sT, sZ, sS]
 refine wpAnyH_done (by kernel_rfl) ?_ _
 clear HS HL1
 go_wp2_with fail
 go_ret
 refine ⟨_, _, _, rfl, H6.out, ?_⟩
 have q1 : Below w.heap.size w w4 := HB1.out.trans (HB4.out.mono HB1.out.size)
 have q2 : Below w.heap.size w w5 := q1.drew.trans (HB5.out.mono q1.size)
 exact q2.trans (HB6.out.mono q2.size)
set_option maxRecDepth 100000 in
set_option maxHeartbeats 8000000 in
theorem rdo3_c {N : Nat → Prop} {w : World} {a : Option Addr} {len cap : Nat} {l : Fls} (h : RF N w a len l) (hN : ∀ k, N k → k < w.heap.size) (s t : ByteArray) (ta : Option Addr) (tn tc : Nat) {p : List Nat} (hm : len ≤ 100000000) {z : List Nat} (hz : lookF l s = some z) :
  Calls Tryz.prog 86 #[.slice a len cap, .agg #[.int .i64 3, .string s, .string t, .slice ta tn tc]] w (RetF N (doF l ⟨3, s, t, p⟩) w) := by
 rw [doF3, hz]
 show Calls _ _ _ _ (RetF N (withF (withoutF (withoutF l s) t) (t, z)) w)
 obtain ⟨X, hX⟩ : ∃ X, X = w.heap.size := ⟨_, rfl⟩
 obtain ⟨w1, hw⟩ : ∃ w1, w1 = w.alloc (.cells #[.int .i64 3, .string s, .string t, .slice ta tn tc] 94) := ⟨_, rfl⟩
 have hb1 : Below w.heap.size w w1 := by rw [hw]; exact (Below.refl _ _).alloc (Nat.le_refl _) _
 have hh : w1.heap[X]? = some (.cells #[.int .i64 3, .string s, .string t, .slice ta tn tc] 94 (0, 0)) := by rw [hw, hX]; exact heap_alloc_new w _
 have x0 := (cell_of_row w1 X 0 _ _ _ hh).trans rfl
 have x1 := (cell_of_row w1 X 1 _ _ _ hh).trans rfl
 have x2 := (cell_of_row w1 X 2 _ _ _ hh).trans rfl
 have x3 := (cell_of_row w1 X 3 _ _ _ hh).trans rfl
 have hrf := h.below hb1
 have hN1 : ∀ k, N k → k < w1.heap.size := fun k hk => by have := hN k hk; have := hb1.size; omega
 have HB1 := Lib.hid hb1
 have HH := Lib.hid hh
 obtain ⟨k, hk, hlk⟩ := idx_of hz
 have hlen := h.ln
 have hkl : k < len := by have := (List.getElem?_eq_some_iff.1 hlk).1; omega
 obtain ⟨b, o, f, ra, rn, rc, rfl, hbl, hf, c0, c1, hrb⟩ := hrf.at hkl
 rw [hlk] at hf
 cases hf
 have hix := fun W => run_file_idx W b o len cap k hkl
 have HFI := Lib.hid (rfind_c (cap := cap) hrf s (by omega))
 rw [show ixI (idxF l s) = (k : Int) by rw [hk]; rfl] at HFI
 have HRB4 := Lib.hid hrb
 have HN1 := Lib.hid hN1
 have i0 : (0 : Int) ≤ (k : Int) := by omega
 have i1 : (k : Int) < (len : Int) := by omega
 have HW1 := Lib.hid (rwithout_c (cap := cap) (hrf.below (Below.refl _ _).drew) hN1 s hm)
 have HLL := Lib.hid (And.intro (without_len l s) (without_len (withoutF l s) t))
 have HLN := Lib.hid hlen
 have HC1 := Lib.hid c1
 have HIX := Lib.hid hix
 have HX12 := Lib.hid (And.intro x1 x2)
 clear h hN hb1 hh hrf hN1 hk hlk hlen hz hrb c0 x3 c1 hix x2
 go_enter Tryz.func86, Tryz.ntmps86
 go_upto_region 1 with fail
 rw [← hX]
 rw [← hw]
 clear hX hw
 go_wp2_with fail
 refine HFI.out.mono ?_
 rintro e2 w4 ⟨rfl, rfl⟩
 have c1 := HC1.out
 have hix := HIX.out
 clear x0 x1
 go_wp2_with fail
 obtain ⟨x1, x2⟩ := HX12.out
 clear c1 hix
 (try dsimp only [Act.put, sT, sZ, sS])
 have HS := Lib.hid (show World.cell? (World.drew w4) ⟨X, 1, none⟩ = some (.string s) ∧ World.cell? (World.drew w4) ⟨X, 2, none⟩ = some (.string t) from ⟨x1, x2⟩)
 refine anyH_begin (S := fun W => World.cell? W ⟨X, 1, none⟩ = some (.string s) ∧ World.cell? W ⟨X, 2, none⟩ = some (.string t)) (by kernel_rfl) ?_
 have HL1 := Lib.hid (fun W (hW : World.cell? W ⟨X, 1, none⟩ = some (.string s) ∧ World.cell? W ⟨X, 2, none⟩ = some (.string t)) => run_cell_s W ⟨X, 1, none⟩ _ hW.1)
 have HL2 := Lib.hid (fun W (hW : World.cell? W ⟨X, 1, none⟩ = some (.string s) ∧ World.cell? W ⟨X, 2, none⟩ = some (.string t)) => run_cell_s W ⟨X, 2, none⟩ _ hW.2)
 have hXs := (Array.getElem?_eq_some_iff.1 HH.out).1
 refine aP 0 (d := 58) (op := .move (.tmp 0)) (.slice (some ⟨b, o, none⟩) len cap) HS.out ?_
 simp only [Act.put, sT, sZ, sS]
 refine aP 1 (d := 59) (op := .fieldAddr 94 (.tmp 3) 1) (.pointer (some ⟨X, 1, none⟩)) HS.out ?_
 simp only [Act.put, sT, sZ, sS]
 refine aL 2 (d := 60) (ty := 9) (x := (.tmp 59)) (p := .pointer (some ⟨X, 1, none⟩)) (.string s) HL1.out HS.out ?_
 simp only [Act.put, sT, sZ, sS]
 refine aP 4 (d := 62) (op := .fieldAddr 94 (.tmp 3) 2) (.pointer (some ⟨X, 2, none⟩)) HS.out ?_
 simp only [Act.put, sT, sZ, sS]
 refine aL 5 (d := 63) (ty := 9) (x := (.tmp 62)) (p := .pointer (some ⟨X, 2, none⟩)) (.string t) HL2.out HS.out ?_
 simp only [Act.put, sT, sZ, sS]
 refine aP 7 (d := 65) (op := .fieldAddr 94 (.tmp 3) 2) (.pointer (some ⟨X, 2, none⟩)) HS.out ?_
 simp only [Act.put, sT, sZ, sS]
 refine aL 8 (d := 66) (ty := 9) (x := (.tmp 65)) (p := .pointer (some ⟨X, 2, none⟩)) (.string t) HL2.out HS.out ?_
 simp only [Act.put, sT, sZ, sS]
 refine aP 9 (d := 67) (op := .move (.tmp 8)) (.slice ra rn rc) HS.out ?_
 simp only [Act.put, sT, sZ, sS]
 refine aP 10 (d := 68) (op := .build 96 #[(0, (.tmp 66)), (1, (.tmp 67))]) (.agg #[.string t, .slice ra rn rc]) HS.out ?_
 simp only [Act.put, sT, sZ, sS]
 refine anyH_callG 3 (d := some 61) (f := 118) (xs := #[(.tmp 58), (.tmp 60)]) (ts := #[81, 9]) (gd := none) (vs := #[.slice (some ⟨b, o, none⟩) len cap, .string s]) (by kernel_rfl) (by rfl) wantedP (by go_simp) (by go_simp) (HW1.out) ?_
 rintro e5 w5 ⟨a5, l5, k5, rfl, h5, hb5⟩
 have HS := Lib.hid (show World.cell? w5 ⟨X, 1, none⟩ = some (.string s) ∧ World.cell? w5 ⟨X, 2, none⟩ = some (.string t) from ⟨(hb5.cell (p := ⟨X, 1, none⟩) hXs).trans HS.out.1, (hb5.cell (p := ⟨X, 2, none⟩) hXs).trans HS.out.2⟩)
 have H5 := Lib.hid h5
 have HB5 := Lib.hid hb5
 clear h5 hb5
 refine ⟨_, rfl, HS.out, fun _ => ?_⟩
 have hX5 := Nat.lt_of_lt_of_le hXs HB5.out.size
 have HW2 := Lib.hid (rwithout_c (cap := k5) H5.out (fun k hk => Nat.lt_of_lt_of_le (HN1.out k hk) HB5.out.size) t (by have := H5.out.ln; have := HLL.out; have := HLN.out; omega))
 simp only [Act.put, sT, sZ, sS]
 refine anyH_callG 6 (d := some 64) (f := 118) (xs := #[(.tmp 61), (.tmp 63)]) (ts := #[81, 9]) (gd := none) (vs := #[.slice a5 l5 k5, .string t]) (by kernel_rfl) (by rfl) wantedP (by go_simp) (by go_simp) (HW2.out) ?_
 rintro e6 w6 ⟨a6, l6, k6, rfl, h6, hb6⟩
 have HS := Lib.hid (show World.cell? w6 ⟨X, 1, none⟩ = some (.string s) ∧ World.cell? w6 ⟨X, 2, none⟩ = some (.string t) from ⟨(hb6.cell (p := ⟨X, 1, none⟩) hX5).trans HS.out.1, (hb6.cell (p := ⟨X, 2, none⟩) hX5).trans HS.out.2⟩)
 have H6 := Lib.hid h6
 have HB6 := Lib.hid hb6
 clear h6 hb6
 refine ⟨_, rfl, HS.out, fun _ => ?_⟩
 have hX6 := Nat.lt_of_lt_of_le hX5 HB6.out.size
 have HW3 := Lib.hid (rwith_c (f := (t, z)) (cap := k6) H6.out (fun k hk => Nat.lt_of_lt_of_le (Nat.lt_of_lt_of_le (HN1.out k hk) HB5.out.size) HB6.out.size) (((HRB4.out.below (Below.refl _ _).drew).below HB5.out).below HB6.out) (by have := H6.out.ln; have := HLL.out; have := HLN.out; omega))
 simp only [Act.put, sT, sZ, sS]
 refine anyH_callG 11 (d := some 69) (f := 117) (xs := #[(.tmp 64), (.tmp 68)]) (ts := #[81, 96]) (gd := none) (vs := #[.slice a6 l6 k6, .agg #[.string t, .slice ra rn rc]]) (by kernel_rfl) (by rfl) wantedP (by go_simp) (by go_simp) (HW3.out) ?_
 rintro e7 w7 ⟨a7, l7, k7, rfl, h7, hb7⟩
 have HS := Lib.hid (show World.cell? w7 ⟨X, 1, none⟩ = some (.string s) ∧ World.cell? w7 ⟨X, 2, none⟩ = some (.string t) from ⟨(hb7.cell (p := ⟨X, 1, none⟩) hX6).trans HS.out.1, (hb7.cell (p := ⟨X, 2, none⟩) hX6).trans HS.out.2⟩)
 have H7 := Lib.hid h7
 have HB7 := Lib.hid hb7
 clear h7 hb7
 refine ⟨_, rfl, HS.out, fun _ => ?_⟩
 simp only [Act.put, sT, sZ, sS]
 refine aP 12 (d := 4) (op := .assign (.tmp 69)) (.slice a7 l7 k7) HS.out ?_
 simp only [Act.put, sT, sZ, sS]
 refine wpAnyH_done (by kernel_rfl) ?_ _
 clear HS HL1 HL2
 go_wp2_with fail
 go_ret
 refine ⟨_, _, _, rfl, H7.out, ?_⟩
 have q2 : Below w.heap.size w w5 := HB1.out.drew.trans (HB5.out.mono HB1.out.size)
 have q3 : Below w.heap.size w w6 := q2.trans (HB6.out.mono q2.size)
 exact q3.trans (HB7.out.mono q3.size)
end Go.Proofs.YtihbgigledmliaaGreat

namespace Go.Proofs.YtihbgigledmliaaGreat
open Go.RowKit
set_option linter.unusedVariables false
set_option maxRecDepth 100000 in
set_option maxHeartbeats 8000000 in
theorem rmay2_c {F : Nat → Prop} {B m : Nat} {lv : Value} {A : Ad} {w : World} (h : RDK F B m lv A w) (s t : ByteArray) (p : List Nat) (pa : Option Addr) (pn pc : Nat) (hm : A.now.length ≤ 100000000) : Calls Tryz.prog 85 #[.pointer (some ⟨m, 0, none⟩), .agg #[.int .i64 2, .string s, .string t, .slice pa pn pc]] w fun e w' => e = .returned (.int .i64 (A.may ⟨2, s, t, p⟩)) ∧ Below w.heap.size w w' := by
 obtain ⟨X, hX⟩ : ∃ X, X = w.heap.size := ⟨_, rfl⟩
 obtain ⟨w1, hw⟩ : ∃ w1, w1 = w.alloc (.cells #[.int .i64 2, .string s, .string t, .slice pa pn pc] 94) := ⟨_, rfl⟩
 have hb1 : Below w.heap.size w w1 := by rw [hw]; exact (Below.refl _ _).alloc (Nat.le_refl _) _
 have hh : w1.heap[X]? = some (.cells #[.int .i64 2, .string s, .string t, .slice pa pn pc] 94 (0, 0)) := by rw [hw, hX]; exact heap_alloc_new w _
 have hk1 := h.below hb1
 obtain ⟨na, nn, nc, sa, sn, sc, ⟨c0, c1, c2, c3, c4, c5⟩, hfz, hnow, hsure⟩ := hk1.cells
 obtain ⟨x0, x1, x2, x3⟩ := xcells hh
 have hlen := hnow.ln
 have HFI := Lib.hid (rfind_c (cap := nc) (hnow.below (Below.refl _ _).drew) s (by omega))
 have HB1 := Lib.hid hb1.drew
 have HNW := Lib.hid (hnow.below (Below.refl _ _).drew)
 obtain ⟨v, hv⟩ : ∃ v, v = A.may ⟨2, s, t, p⟩ := ⟨_, rfl⟩
 rw [← hv]
 clear h hb1 hh hk1 hnow hsure hfz c2 c3 c4 c5 hlen
 go_enter Tryz.func85, Tryz.ntmps85
 go_wp2_with fail
 rw [← hX, ← hw]
 clear hX hw
 (try dsimp only [Act.put, sT, sZ, sS])
 have HS := Lib.hid (show World.cell? (World.drew w1) ⟨m, 1, none⟩ = some (.slice na nn nc) ∧ World.cell? (World.drew w1) ⟨X, 1, none⟩ = some (.string s) from ⟨c1, x1⟩)
 have HL1 := Lib.hid (fun W (hW : World.cell? W ⟨m, 1, none⟩ = some (.slice na nn nc) ∧ World.cell? W ⟨X, 1, none⟩ = some (.string s)) => run_cell_fl W ⟨m, 1, none⟩ _ _ _ hW.1)
 have HL2 := Lib.hid (fun W (hW : World.cell? W ⟨m, 1, none⟩ = some (.slice na nn nc) ∧ World.cell? W ⟨X, 1, none⟩ = some (.string s)) => run_cell_s W ⟨X, 1, none⟩ _ hW.2)
 refine anyH_begin (S := fun W => World.cell? W ⟨m, 1, none⟩ = some (.slice na nn nc) ∧ World.cell? W ⟨X, 1, none⟩ = some (.string s)) (by kernel_rfl) ?_
 refine aP 0 (d := 6) (op := .move (.tmp 0)) (.pointer (some ⟨m, 0, none⟩)) HS.out ?_
 simp only [Act.put, sT, sZ, sS]
 refine aP 1 (d := 7) (op := .nilCheck (.tmp 6)) (.pointer (some ⟨m, 0, none⟩)) HS.out ?_
 simp only [Act.put, sT, sZ, sS]
 refine aP 2 (d := 8) (op := .fieldAddr 84 (.tmp 7) 1) (.pointer (some ⟨m, 1, none⟩)) HS.out ?_
 simp only [Act.put, sT, sZ, sS]
 refine aL 3 (d := 9) (ty := 81) (x := (.tmp 8)) (p := .pointer (some ⟨m, 1, none⟩)) (.slice na nn nc) HL1.out HS.out ?_
 simp only [Act.put, sT, sZ, sS]
 refine aP 4 (d := 10) (op := .fieldAddr 94 (.tmp 3) 1) (.pointer (some ⟨X, 1, none⟩)) HS.out ?_
 simp only [Act.put, sT, sZ, sS]
 refine aL 5 (d := 11) (ty := 9) (x := (.tmp 10)) (p := .pointer (some ⟨X, 1, none⟩)) (.string s) HL2.out HS.out ?_
 simp only [Act.put, sT, sZ, sS]
 refine anyH_callG 6 (d := some 12) (f := 38) (xs := #[(.tmp 9), (.tmp 11)]) (ts := #[81, 9]) (gd := none) (vs := #[.slice na nn nc, .string s]) (by kernel_rfl) (by rfl) wantedP (by go_simp) (by go_simp) (HFI.out) ?_
 rintro e9 w9 ⟨rfl, rfl⟩
 refine ⟨_, rfl, HS.out, fun _ => ?_⟩
 simp only [Act.put, sT, sZ, sS]
 refine aP 7 (d := 5) (op := .assign (.tmp 12)) (.int .i64 (ixI (idxF A.now s))) HS.out ?_
 simp only [Act.put, sT, sZ, sS]
 refine wpAnyH_done (by kernel_rfl) ?_ _
 clear HS HL1 HL2
 clear HFI
 obtain ⟨wq, hwq⟩ : ∃ wq, wq = World.drew w1 := ⟨_, rfl⟩
 rw [← hwq] at HB1 HNW ⊢
 obtain ⟨x0, x1, x2, x3⟩ : wq.cell? ⟨X, 0, none⟩ = some (.int .i64 2) ∧ wq.cell? ⟨X, 1, none⟩ = some (.string s) ∧ wq.cell? ⟨X, 2, none⟩ = some (.string t) ∧ wq.cell? ⟨X, 3, none⟩ = some (.slice pa pn pc) := by rw [hwq]; exact ⟨x0, x1, x2, x3⟩
 have c0 : wq.cell? ⟨m, 0, none⟩ = some (.int .i64 A.room) := by rw [hwq]; exact c0
 have c1 : wq.cell? ⟨m, 1, none⟩ = some (.slice na nn nc) := by rw [hwq]; exact c1
 clear hwq
 cases hl : lookF A.now s with
 | none =>
  rw [ixI_neg hl]
  obtain rfl : v = 6 := by rw [hv]; unfold Ad.may; rw [if_neg (show ¬ (2 : Nat) = 0 by decide)]; simp only [hl]; rfl
  clear hl hv
  go_wp2_with fail
  go_ret
  exact ⟨rfl, HB1.out⟩
 | some z =>
  obtain ⟨k, hk, hix⟩ := ixI_pos (l := A.now) (s := s) (by rw [hl]; rfl)
  rw [hix]
  have i0 : ¬ (k : Int) < 0 := by omega
  obtain rfl : v = 0 := by rw [hv]; unfold Ad.may; rw [if_neg (show ¬ (2 : Nat) = 0 by decide), if_neg (by rw [hl]; simp), if_neg (show ¬ (2 : Nat) = 1 by decide), if_neg (fun k => absurd k.1 (show ¬ (2 : Nat) = 3 by decide))]
  clear hl hv hix hk
  go_wp2_with fail
  go_ret
  exact ⟨rfl, HB1.out⟩
set_option maxRecDepth 100000 in
set_option maxHeartbeats 8000000 in
theorem rmay3_c {F : Nat → Prop} {B m : Nat} {lv : Value} {A : Ad} {w : World} (h : RDK F B m lv A w) (s t : ByteArray) (p : List Nat) (pa : Option Addr) (pn pc : Nat) (hm : A.now.length ≤ 100000000) (ht : t.size ≤ maxLen) : Calls Tryz.prog 85 #[.pointer (some ⟨m, 0, none⟩), .agg #[.int .i64 3, .string s, .string t, .slice pa pn pc]] w fun e w' => e = .returned (.int .i64 (A.may ⟨3, s, t, p⟩)) ∧ Below w.heap.size w w' := by
 obtain ⟨X, hX⟩ : ∃ X, X = w.heap.size := ⟨_, rfl⟩
 obtain ⟨w1, hw⟩ : ∃ w1, w1 = w.alloc (.cells #[.int .i64 3, .string s, .string t, .slice pa pn pc] 94) := ⟨_, rfl⟩
 have hb1 : Below w.heap.size w w1 := by rw [hw]; exact (Below.refl _ _).alloc (Nat.le_refl _) _
 have hh : w1.heap[X]? = some (.cells #[.int .i64 3, .string s, .string t, .slice pa pn pc] 94 (0, 0)) := by rw [hw, hX]; exact heap_alloc_new w _
 have hk1 := h.below hb1
 obtain ⟨na, nn, nc, sa, sn, sc, ⟨c0, c1, c2, c3, c4, c5⟩, hfz, hnow, hsure⟩ := hk1.cells
 obtain ⟨x0, x1, x2, x3⟩ := xcells hh
 have hlen := hnow.ln
 have HFI := Lib.hid (rfind_c (cap := nc) (hnow.below (Below.refl _ _).drew) s (by omega))
 have HB1 := Lib.hid hb1.drew
 have HNW := Lib.hid (hnow.below (Below.refl _ _).drew)
 obtain ⟨v, hv⟩ : ∃ v, v = A.may ⟨3, s, t, p⟩ := ⟨_, rfl⟩
 rw [← hv]
 have HNM := Lib.hid (fun W => risname_c t W ht)
 clear h hb1 hh hk1 hnow hsure hfz c2 c3 c4 c5 hlen
 go_enter Tryz.func85, Tryz.ntmps85
 go_wp2_with fail
 rw [← hX, ← hw]
 clear hX hw
 (try dsimp only [Act.put, sT, sZ, sS])
 have HS := Lib.hid (show World.cell? (World.drew w1) ⟨m, 1, none⟩ = some (.slice na nn nc) ∧ World.cell? (World.drew w1) ⟨X, 1, none⟩ = some (.string s) from ⟨c1, x1⟩)
 have HL1 := Lib.hid (fun W (hW : World.cell? W ⟨m, 1, none⟩ = some (.slice na nn nc) ∧ World.cell? W ⟨X, 1, none⟩ = some (.string s)) => run_cell_fl W ⟨m, 1, none⟩ _ _ _ hW.1)
 have HL2 := Lib.hid (fun W (hW : World.cell? W ⟨m, 1, none⟩ = some (.slice na nn nc) ∧ World.cell? W ⟨X, 1, none⟩ = some (.string s)) => run_cell_s W ⟨X, 1, none⟩ _ hW.2)
 refine anyH_begin (S := fun W => World.cell? W ⟨m, 1, none⟩ = some (.slice na nn nc) ∧ World.cell? W ⟨X, 1, none⟩ = some (.string s)) (by kernel_rfl) ?_
 refine aP 0 (d := 6) (op := .move (.tmp 0)) (.pointer (some ⟨m, 0, none⟩)) HS.out ?_
 simp only [Act.put, sT, sZ, sS]
 refine aP 1 (d := 7) (op := .nilCheck (.tmp 6)) (.pointer (some ⟨m, 0, none⟩)) HS.out ?_
 simp only [Act.put, sT, sZ, sS]
 refine aP 2 (d := 8) (op := .fieldAddr 84 (.tmp 7) 1) (.pointer (some ⟨m, 1, none⟩)) HS.out ?_
 simp only [Act.put, sT, sZ, sS]
 refine aL 3 (d := 9) (ty := 81) (x := (.tmp 8)) (p := .pointer (some ⟨m, 1, none⟩)) (.slice na nn nc) HL1.out HS.out ?_
 simp only [Act.put, sT, sZ, sS]
 refine aP 4 (d := 10) (op := .fieldAddr 94 (.tmp 3) 1) (.pointer (some ⟨X, 1, none⟩)) HS.out ?_
 simp only [Act.put, sT, sZ, sS]
 refine aL 5 (d := 11) (ty := 9) (x := (.tmp 10)) (p := .pointer (some ⟨X, 1, none⟩)) (.string s) HL2.out HS.out ?_
 simp only [Act.put, sT, sZ, sS]
 refine anyH_callG 6 (d := some 12) (f := 38) (xs := #[(.tmp 9), (.tmp 11)]) (ts := #[81, 9]) (gd := none) (vs := #[.slice na nn nc, .string s]) (by kernel_rfl) (by rfl) wantedP (by go_simp) (by go_simp) (HFI.out) ?_
 rintro e9 w9 ⟨rfl, rfl⟩
 refine ⟨_, rfl, HS.out, fun _ => ?_⟩
 simp only [Act.put, sT, sZ, sS]
 refine aP 7 (d := 5) (op := .assign (.tmp 12)) (.int .i64 (ixI (idxF A.now s))) HS.out ?_
 simp only [Act.put, sT, sZ, sS]
 refine wpAnyH_done (by kernel_rfl) ?_ _
 clear HS HL1 HL2
 clear HFI
 obtain ⟨wq, hwq⟩ : ∃ wq, wq = World.drew w1 := ⟨_, rfl⟩
 rw [← hwq] at HB1 HNW ⊢
 obtain ⟨x0, x1, x2, x3⟩ : wq.cell? ⟨X, 0, none⟩ = some (.int .i64 3) ∧ wq.cell? ⟨X, 1, none⟩ = some (.string s) ∧ wq.cell? ⟨X, 2, none⟩ = some (.string t) ∧ wq.cell? ⟨X, 3, none⟩ = some (.slice pa pn pc) := by rw [hwq]; exact ⟨x0, x1, x2, x3⟩
 have c0 : wq.cell? ⟨m, 0, none⟩ = some (.int .i64 A.room) := by rw [hwq]; exact c0
 have c1 : wq.cell? ⟨m, 1, none⟩ = some (.slice na nn nc) := by rw [hwq]; exact c1
 clear hwq
 cases hl : lookF A.now s with
 | none =>
  rw [ixI_neg hl]
  obtain rfl : v = 6 := by rw [hv]; unfold Ad.may; rw [if_neg (show ¬ (3 : Nat) = 0 by decide)]; simp only [hl]; rfl
  clear hl hv
  go_wp2_with fail
  go_ret
  exact ⟨rfl, HB1.out⟩
 | some z =>
  obtain ⟨k, hk, hix⟩ := ixI_pos (l := A.now) (s := s) (by rw [hl]; rfl)
  rw [hix]
  have i0 : ¬ (k : Int) < 0 := by omega
  have hm0 : A.may ⟨3, s, t, p⟩ = (if (3 : Nat) = 3 ∧ isNm t = false then 1 else 0) := by
   unfold Ad.may
   rw [if_neg (show ¬ (3 : Nat) = 0 by decide), if_neg (by rw [hl]; simp), if_neg (show ¬ (3 : Nat) = 1 by decide)]
  rcases (isNm_cases t).symm with hn | hn
  ·
   rw [hn] at HNM
   obtain rfl : v = 1 := by rw [hv, hm0, if_pos ⟨rfl, hn⟩]
   clear hl hv hix hk hm0 hn
   go_wp2_with fail
   refine (HNM.out _).mono ?_
   rintro e2 w2 ⟨rfl, rfl⟩
   go_wp2_with fail
   go_ret
   exact ⟨rfl, HB1.out⟩
  ·
   rw [hn] at HNM
   obtain rfl : v = 0 := by rw [hv, hm0, if_neg (fun k => by rw [hn] at k; exact absurd k.2 (by decide))]
   clear hl hv hix hk hm0 hn
   go_wp2_with fail
   refine (HNM.out _).mono ?_
   rintro e2 w2 ⟨rfl, rfl⟩
   go_wp2_with fail
   go_ret
   exact ⟨rfl, HB1.out⟩
set_option maxRecDepth 100000 in
set_option maxHeartbeats 8000000 in
theorem rmay1_c {F : Nat → Prop} {B m : Nat} {lv : Value} {A : Ad} {w : World} (h : RDK F B m lv A w) (s t : ByteArray) (p : List Nat) (pa : Option Addr) (pn pc : Nat) (hm : A.now.length ≤ 100000000) (hpl : p.length = pn) (hu : usedF A.now ≤ 1000000000) (hr0 : 0 ≤ A.room) (hr1 : A.room ≤ 1000000000) : Calls Tryz.prog 85 #[.pointer (some ⟨m, 0, none⟩), .agg #[.int .i64 1, .string s, .string t, .slice pa pn pc]] w fun e w' => e = .returned (.int .i64 (A.may ⟨1, s, t, p⟩)) ∧ Below w.heap.size w w' := by
 obtain ⟨X, hX⟩ : ∃ X, X = w.heap.size := ⟨_, rfl⟩
 obtain ⟨w1, hw⟩ : ∃ w1, w1 = w.alloc (.cells #[.int .i64 1, .string s, .string t, .slice pa pn pc] 94) := ⟨_, rfl⟩
 have hb1 : Below w.heap.size w w1 := by rw [hw]; exact (Below.refl _ _).alloc (Nat.le_refl _) _
 have hh : w1.heap[X]? = some (.cells #[.int .i64 1, .string s, .string t, .slice pa pn pc] 94 (0, 0)) := by rw [hw, hX]; exact heap_alloc_new w _
 have hk1 := h.below hb1
 obtain ⟨na, nn, nc, sa, sn, sc, ⟨c0, c1, c2, c3, c4, c5⟩, hfz, hnow, hsure⟩ := hk1.cells
 obtain ⟨x0, x1, x2, x3⟩ := xcells hh
 have hlen := hnow.ln
 have HFI := Lib.hid (rfind_c (cap := nc) (hnow.below (Below.refl _ _).drew) s (by omega))
 have HB1 := Lib.hid hb1.drew
 have HNW := Lib.hid (hnow.below (Below.refl _ _).drew)
 obtain ⟨v, hv⟩ : ∃ v, v = A.may ⟨1, s, t, p⟩ := ⟨_, rfl⟩
 rw [← hv]
 have hmm : nn ≤ 1000000000 := by omega
 clear h hb1 hh hk1 hnow hsure hfz c2 c3 c4 c5 hlen
 go_enter Tryz.func85, Tryz.ntmps85
 go_wp2_with fail
 rw [← hX, ← hw]
 clear hX hw
 (try dsimp only [Act.put, sT, sZ, sS])
 have HS := Lib.hid (show World.cell? (World.drew w1) ⟨m, 1, none⟩ = some (.slice na nn nc) ∧ World.cell? (World.drew w1) ⟨X, 1, none⟩ = some (.string s) from ⟨c1, x1⟩)
 have HL1 := Lib.hid (fun W (hW : World.cell? W ⟨m, 1, none⟩ = some (.slice na nn nc) ∧ World.cell? W ⟨X, 1, none⟩ = some (.string s)) => run_cell_fl W ⟨m, 1, none⟩ _ _ _ hW.1)
 have HL2 := Lib.hid (fun W (hW : World.cell? W ⟨m, 1, none⟩ = some (.slice na nn nc) ∧ World.cell? W ⟨X, 1, none⟩ = some (.string s)) => run_cell_s W ⟨X, 1, none⟩ _ hW.2)
 refine anyH_begin (S := fun W => World.cell? W ⟨m, 1, none⟩ = some (.slice na nn nc) ∧ World.cell? W ⟨X, 1, none⟩ = some (.string s)) (by kernel_rfl) ?_
 refine aP 0 (d := 6) (op := .move (.tmp 0)) (.pointer (some ⟨m, 0, none⟩)) HS.out ?_
 simp only [Act.put, sT, sZ, sS]
 refine aP 1 (d := 7) (op := .nilCheck (.tmp 6)) (.pointer (some ⟨m, 0, none⟩)) HS.out ?_
 simp only [Act.put, sT, sZ, sS]
 refine aP 2 (d := 8) (op := .fieldAddr 84 (.tmp 7) 1) (.pointer (some ⟨m, 1, none⟩)) HS.out ?_
 simp only [Act.put, sT, sZ, sS]
 refine aL 3 (d := 9) (ty := 81) (x := (.tmp 8)) (p := .pointer (some ⟨m, 1, none⟩)) (.slice na nn nc) HL1.out HS.out ?_
 simp only [Act.put, sT, sZ, sS]
 refine aP 4 (d := 10) (op := .fieldAddr 94 (.tmp 3) 1) (.pointer (some ⟨X, 1, none⟩)) HS.out ?_
 simp only [Act.put, sT, sZ, sS]
 refine aL 5 (d := 11) (ty := 9) (x := (.tmp 10)) (p := .pointer (some ⟨X, 1, none⟩)) (.string s) HL2.out HS.out ?_
 simp only [Act.put, sT, sZ, sS]
 refine anyH_callG 6 (d := some 12) (f := 38) (xs := #[(.tmp 9), (.tmp 11)]) (ts := #[81, 9]) (gd := none) (vs := #[.slice na nn nc, .string s]) (by kernel_rfl) (by rfl) wantedP (by go_simp) (by go_simp) (HFI.out) ?_
 rintro e9 w9 ⟨rfl, rfl⟩
 refine ⟨_, rfl, HS.out, fun _ => ?_⟩
 simp only [Act.put, sT, sZ, sS]
 refine aP 7 (d := 5) (op := .assign (.tmp 12)) (.int .i64 (ixI (idxF A.now s))) HS.out ?_
 simp only [Act.put, sT, sZ, sS]
 refine wpAnyH_done (by kernel_rfl) ?_ _
 clear HS HL1 HL2
 clear HFI
 obtain ⟨wq, hwq⟩ : ∃ wq, wq = World.drew w1 := ⟨_, rfl⟩
 rw [← hwq] at HB1 HNW ⊢
 obtain ⟨x0, x1, x2, x3⟩ : wq.cell? ⟨X, 0, none⟩ = some (.int .i64 1) ∧ wq.cell? ⟨X, 1, none⟩ = some (.string s) ∧ wq.cell? ⟨X, 2, none⟩ = some (.string t) ∧ wq.cell? ⟨X, 3, none⟩ = some (.slice pa pn pc) := by rw [hwq]; exact ⟨x0, x1, x2, x3⟩
 have c0 : wq.cell? ⟨m, 0, none⟩ = some (.int .i64 A.room) := by rw [hwq]; exact c0
 have c1 : wq.cell? ⟨m, 1, none⟩ = some (.slice na nn nc) := by rw [hwq]; exact c1
 clear hwq
 cases hl : lookF A.now s with
 | none =>
  rw [ixI_neg hl]
  obtain rfl : v = 6 := by rw [hv]; unfold Ad.may; rw [if_neg (show ¬ (1 : Nat) = 0 by decide)]; simp only [hl]; rfl
  clear hl hv
  go_wp2_with fail
  go_ret
  exact ⟨rfl, HB1.out⟩
 | some z =>
  obtain ⟨k, hk, hix⟩ := ixI_pos (l := A.now) (s := s) (by rw [hl]; rfl)
  rw [hix]
  have i0 : ¬ (k : Int) < 0 := by omega
  have hm0 : A.may ⟨1, s, t, p⟩ = (if 1048576 < p.length then 8 else if A.room - (usedF A.now : Int) < (p.length : Int) then 4 else 0) := by
   unfold Ad.may
   rw [if_neg (show ¬ (1 : Nat) = 0 by decide), if_neg (by rw [hl]; simp), if_pos rfl]
  by_cases hlo : 1048576 < pn
  ·
   have i1 : (1048576 : Int) < (pn : Int) := by omega
   obtain rfl : v = 8 := by rw [hv, hm0, if_pos (by omega)]
   clear hl hv hix hk hm0 hlo
   go_wp2_with fail
   go_ret
   exact ⟨rfl, HB1.out⟩
  ·
   have i1 : ¬ (1048576 : Int) < (pn : Int) := by omega
   have HUS := Lib.hid (rused_c (cap := nc) (HNW.out.below (Below.refl _ _).drew) hmm (by omega))
   have hsub : IntKind.i64.wrap (A.room - (usedF A.now : Int)) = A.room - (usedF A.now : Int) := by rw [IntKind.wrap_i64]; omega
   have HB2 := Lib.hid HB1.out.drew
   by_cases hfull : A.room - (usedF A.now : Int) < (pn : Int)
   ·
    obtain rfl : v = 4 := by rw [hv, hm0, if_neg (by omega), if_pos (by omega)]
    have hfit : decide (A.room - (usedF A.now : Int) < (pn : Int)) = true := decide_eq_true hfull
    clear hl hv hix hk hm0 hlo hfull
    go_wp2_with fail
    (try dsimp only [Act.put, sT, sZ, sS])
    have HS := Lib.hid (show World.cell? (World.drew wq) ⟨m, 0, none⟩ = some (.int .i64 A.room) ∧ World.cell? (World.drew wq) ⟨m, 1, none⟩ = some (.slice na nn nc) ∧ World.cell? (World.drew wq) ⟨X, 3, none⟩ = some (.slice pa pn pc) from ⟨c0, c1, x3⟩)
    have HL1 := Lib.hid (fun W (hW : World.cell? W ⟨m, 0, none⟩ = some (.int .i64 A.room) ∧ World.cell? W ⟨m, 1, none⟩ = some (.slice na nn nc) ∧ World.cell? W ⟨X, 3, none⟩ = some (.slice pa pn pc)) => run_cell_fl W ⟨m, 1, none⟩ _ _ _ hW.2.1)
    have HL0 := Lib.hid (fun W (hW : World.cell? W ⟨m, 0, none⟩ = some (.int .i64 A.room) ∧ World.cell? W ⟨m, 1, none⟩ = some (.slice na nn nc) ∧ World.cell? W ⟨X, 3, none⟩ = some (.slice pa pn pc)) => run_cell_i W ⟨m, 0, none⟩ _ hW.1)
    have HL2 := Lib.hid (fun W (hW : World.cell? W ⟨m, 0, none⟩ = some (.int .i64 A.room) ∧ World.cell? W ⟨m, 1, none⟩ = some (.slice na nn nc) ∧ World.cell? W ⟨X, 3, none⟩ = some (.slice pa pn pc)) => run_cell_b W ⟨X, 3, none⟩ _ _ _ hW.2.2)
    refine anyH_begin (S := fun W => World.cell? W ⟨m, 0, none⟩ = some (.int .i64 A.room) ∧ World.cell? W ⟨m, 1, none⟩ = some (.slice na nn nc) ∧ World.cell? W ⟨X, 3, none⟩ = some (.slice pa pn pc)) (by kernel_rfl) ?_
    refine aP 0 (d := 37) (op := .fieldAddr 94 (.tmp 3) 3) (.pointer (some ⟨X, 3, none⟩)) HS.out ?_
    simp only [Act.put, sT, sZ, sS]
    refine aL 1 (d := 38) (ty := 38) (x := (.tmp 37)) (p := .pointer (some ⟨X, 3, none⟩)) (.slice pa pn pc) HL2.out HS.out ?_
    simp only [Act.put, sT, sZ, sS]
    refine aP 2 (d := 39) (op := .call { callee := .builtin .len, args := #[(.tmp 38)], argTypes := #[38] }) (.int .i64 (pn : Int)) HS.out ?_
    simp only [Act.put, sT, sZ, sS]
    refine aP 3 (d := 40) (op := .move (.tmp 0)) (.pointer (some ⟨m, 0, none⟩)) HS.out ?_
    simp only [Act.put, sT, sZ, sS]
    refine aP 4 (d := 41) (op := .nilCheck (.tmp 40)) (.pointer (some ⟨m, 0, none⟩)) HS.out ?_
    simp only [Act.put, sT, sZ, sS]
    refine aP 5 (d := 42) (op := .fieldAddr 84 (.tmp 41) 0) (.pointer (some ⟨m, 0, none⟩)) HS.out ?_
    simp only [Act.put, sT, sZ, sS]
    refine aL 6 (d := 43) (ty := 3) (x := (.tmp 42)) (p := .pointer (some ⟨m, 0, none⟩)) (.int .i64 A.room) HL0.out HS.out ?_
    simp only [Act.put, sT, sZ, sS]
    refine aP 7 (d := 44) (op := .move (.tmp 0)) (.pointer (some ⟨m, 0, none⟩)) HS.out ?_
    simp only [Act.put, sT, sZ, sS]
    refine aP 8 (d := 45) (op := .nilCheck (.tmp 44)) (.pointer (some ⟨m, 0, none⟩)) HS.out ?_
    simp only [Act.put, sT, sZ, sS]
    refine aP 9 (d := 46) (op := .fieldAddr 84 (.tmp 45) 1) (.pointer (some ⟨m, 1, none⟩)) HS.out ?_
    simp only [Act.put, sT, sZ, sS]
    refine aL 10 (d := 47) (ty := 81) (x := (.tmp 46)) (p := .pointer (some ⟨m, 1, none⟩)) (.slice na nn nc) HL1.out HS.out ?_
    simp only [Act.put, sT, sZ, sS]
    refine anyH_callG 11 (d := some 48) (f := 59) (xs := #[(.tmp 47)]) (ts := #[81]) (gd := none) (vs := #[.slice na nn nc]) (by kernel_rfl) (by rfl) wantedP (by go_simp) (by go_simp) (HUS.out) ?_
    rintro e9 w9 ⟨rfl, rfl⟩
    refine ⟨_, rfl, HS.out, fun _ => ?_⟩
    simp only [Act.put, sT, sZ, sS]
    refine anyH_pureG 12 (d := 49) (op := .binOp .sub 3 (.tmp 43) (.tmp 48) 3) (gd := none) (.int .i64 (A.room - (usedF A.now : Int))) (by rfl) wantedP (by kernel_rfl) (by kernel_rfl) (by kernel_rfl) (fun _ _ _ h => h) (fun o ho W hW => by unfold execOp; simp only [ho]; go_simp; try exact hsub) HS.out ?_
    simp only [Act.put, sT, sZ, sS]
    refine anyH_pureG 13 (d := 50) (op := .binOp .gtr 3 (.tmp 39) (.tmp 49) 3) (gd := none) (.bool true) (by rfl) wantedP (by kernel_rfl) (by kernel_rfl) (by kernel_rfl) (fun _ _ _ h => h) (fun o ho W hW => by unfold execOp; simp only [ho]; go_simp; try exact hfit) HS.out ?_
    simp only [Act.put, sT, sZ, sS]
    refine wpAnyH_done (by kernel_rfl) ?_ _
    clear HS HL1 HL2 HL0
    go_wp2_with fail
    go_ret
    exact ⟨rfl, HB2.out⟩
   ·
    obtain rfl : v = 0 := by rw [hv, hm0, if_neg (by omega), if_neg (by omega)]
    have hfit : decide (A.room - (usedF A.now : Int) < (pn : Int)) = false := decide_eq_false hfull
    clear hl hv hix hk hm0 hlo hfull
    go_wp2_with fail
    (try dsimp only [Act.put, sT, sZ, sS])
    have HS := Lib.hid (show World.cell? (World.drew wq) ⟨m, 0, none⟩ = some (.int .i64 A.room) ∧ World.cell? (World.drew wq) ⟨m, 1, none⟩ = some (.slice na nn nc) ∧ World.cell? (World.drew wq) ⟨X, 3, none⟩ = some (.slice pa pn pc) from ⟨c0, c1, x3⟩)
    have HL1 := Lib.hid (fun W (hW : World.cell? W ⟨m, 0, none⟩ = some (.int .i64 A.room) ∧ World.cell? W ⟨m, 1, none⟩ = some (.slice na nn nc) ∧ World.cell? W ⟨X, 3, none⟩ = some (.slice pa pn pc)) => run_cell_fl W ⟨m, 1, none⟩ _ _ _ hW.2.1)
    have HL0 := Lib.hid (fun W (hW : World.cell? W ⟨m, 0, none⟩ = some (.int .i64 A.room) ∧ World.cell? W ⟨m, 1, none⟩ = some (.slice na nn nc) ∧ World.cell? W ⟨X, 3, none⟩ = some (.slice pa pn pc)) => run_cell_i W ⟨m, 0, none⟩ _ hW.1)
    have HL2 := Lib.hid (fun W (hW : World.cell? W ⟨m, 0, none⟩ = some (.int .i64 A.room) ∧ World.cell? W ⟨m, 1, none⟩ = some (.slice na nn nc) ∧ World.cell? W ⟨X, 3, none⟩ = some (.slice pa pn pc)) => run_cell_b W ⟨X, 3, none⟩ _ _ _ hW.2.2)
    refine anyH_begin (S := fun W => World.cell? W ⟨m, 0, none⟩ = some (.int .i64 A.room) ∧ World.cell? W ⟨m, 1, none⟩ = some (.slice na nn nc) ∧ World.cell? W ⟨X, 3, none⟩ = some (.slice pa pn pc)) (by kernel_rfl) ?_
    refine aP 0 (d := 37) (op := .fieldAddr 94 (.tmp 3) 3) (.pointer (some ⟨X, 3, none⟩)) HS.out ?_
    simp only [Act.put, sT, sZ, sS]
    refine aL 1 (d := 38) (ty := 38) (x := (.tmp 37)) (p := .pointer (some ⟨X, 3, none⟩)) (.slice pa pn pc) HL2.out HS.out ?_
    simp only [Act.put, sT, sZ, sS]
    refine aP 2 (d := 39) (op := .call { callee := .builtin .len, args := #[(.tmp 38)], argTypes := #[38] }) (.int .i64 (pn : Int)) HS.out ?_
    simp only [Act.put, sT, sZ, sS]
    refine aP 3 (d := 40) (op := .move (.tmp 0)) (.pointer (some ⟨m, 0, none⟩)) HS.out ?_
    simp only [Act.put, sT, sZ, sS]
    refine aP 4 (d := 41) (op := .nilCheck (.tmp 40)) (.pointer (some ⟨m, 0, none⟩)) HS.out ?_
    simp only [Act.put, sT, sZ, sS]
    refine aP 5 (d := 42) (op := .fieldAddr 84 (.tmp 41) 0) (.pointer (some ⟨m, 0, none⟩)) HS.out ?_
    simp only [Act.put, sT, sZ, sS]
    refine aL 6 (d := 43) (ty := 3) (x := (.tmp 42)) (p := .pointer (some ⟨m, 0, none⟩)) (.int .i64 A.room) HL0.out HS.out ?_
    simp only [Act.put, sT, sZ, sS]
    refine aP 7 (d := 44) (op := .move (.tmp 0)) (.pointer (some ⟨m, 0, none⟩)) HS.out ?_
    simp only [Act.put, sT, sZ, sS]
    refine aP 8 (d := 45) (op := .nilCheck (.tmp 44)) (.pointer (some ⟨m, 0, none⟩)) HS.out ?_
    simp only [Act.put, sT, sZ, sS]
    refine aP 9 (d := 46) (op := .fieldAddr 84 (.tmp 45) 1) (.pointer (some ⟨m, 1, none⟩)) HS.out ?_
    simp only [Act.put, sT, sZ, sS]
    refine aL 10 (d := 47) (ty := 81) (x := (.tmp 46)) (p := .pointer (some ⟨m, 1, none⟩)) (.slice na nn nc) HL1.out HS.out ?_
    simp only [Act.put, sT, sZ, sS]
    refine anyH_callG 11 (d := some 48) (f := 59) (xs := #[(.tmp 47)]) (ts := #[81]) (gd := none) (vs := #[.slice na nn nc]) (by kernel_rfl) (by rfl) wantedP (by go_simp) (by go_simp) (HUS.out) ?_
    rintro e9 w9 ⟨rfl, rfl⟩
    refine ⟨_, rfl, HS.out, fun _ => ?_⟩
    simp only [Act.put, sT, sZ, sS]
    refine anyH_pureG 12 (d := 49) (op := .binOp .sub 3 (.tmp 43) (.tmp 48) 3) (gd := none) (.int .i64 (A.room - (usedF A.now : Int))) (by rfl) wantedP (by kernel_rfl) (by kernel_rfl) (by kernel_rfl) (fun _ _ _ h => h) (fun o ho W hW => by unfold execOp; simp only [ho]; go_simp; try exact hsub) HS.out ?_
    simp only [Act.put, sT, sZ, sS]
    refine anyH_pureG 13 (d := 50) (op := .binOp .gtr 3 (.tmp 39) (.tmp 49) 3) (gd := none) (.bool false) (by rfl) wantedP (by kernel_rfl) (by kernel_rfl) (by kernel_rfl) (fun _ _ _ h => h) (fun o ho W hW => by unfold execOp; simp only [ho]; go_simp; try exact hfit) HS.out ?_
    simp only [Act.put, sT, sZ, sS]
    refine wpAnyH_done (by kernel_rfl) ?_ _
    clear HS HL1 HL2 HL0
    go_wp2_with fail
    go_ret
    exact ⟨rfl, HB2.out⟩
end Go.Proofs.YtihbgigledmliaaGreat

namespace Go.Proofs.YtihbgigledmliaaGreat
open Go.RowKit
set_option linter.unusedVariables false
/-- Sure becomes Now, no change is loose -/
theorem RDK.synced {F : Nat → Prop} {B m : Nat} {lv : Value} {A : Ad} {w : World} (h : RDK F B m lv A w) {na : Option Addr} {nn nc : Nat} (hc : w.cell? ⟨m, 1, none⟩ = some (.slice na nn nc)) :
  RDK F B m (.slice none 0 0) { A with sure := A.now, loose := [] } ((w.setCell ⟨m, 2, none⟩ (.slice na nn nc)).setCell ⟨m, 3, none⟩ (.slice none 0 0)) ∧ MvR m lv (.slice none 0 0) w ((w.setCell ⟨m, 2, none⟩ (.slice na nn nc)).setCell ⟨m, 3, none⟩ (.slice none 0 0)) := by
 obtain ⟨na', nn', nc', sa, sn, sc, h1, h2, h3⟩ := h.hd
 have e : some (Value.slice na' nn' nc') = some (.slice na nn nc) := ((cell_of_row w m 1 _ _ _ h1).trans rfl).symm.trans hc
 obtain ⟨e1, e2, e3⟩ := Value.slice.inj (Option.some.inj e)
 subst e1 e2 e3
 have k1 := row_set h1 (.slice na' nn' nc') (o := 2) (by show 2 < 6; omega)
 have k2 := row_set k1 (.slice none 0 0) (o := 3) (by show 3 < 6; omega)
 have ho : ∀ k, k ≠ m → ((w.setCell ⟨m, 2, none⟩ (.slice na' nn' nc')).setCell ⟨m, 3, none⟩ (.slice none 0 0)).heap[k]? = w.heap[k]? := fun k hk => (Below.heap_setCell _ ⟨m, 3, none⟩ _ k hk).trans (Below.heap_setCell w ⟨m, 2, none⟩ _ k hk)
 have hz : ((w.setCell ⟨m, 2, none⟩ (.slice na' nn' nc')).setCell ⟨m, 3, none⟩ (.slice none 0 0)).heap.size = w.heap.size := by simp [World.setCell]
 have hN : Sta (NR F m lv) w ((w.setCell ⟨m, 2, none⟩ (.slice na' nn' nc')).setCell ⟨m, 3, none⟩ (.slice none 0 0)) := ⟨by rw [hz]; exact Nat.le_refl _, fun k hk hn => ho k fun e => hn (.inr (.inl e))⟩
 have hR : Ren (NR F m lv) (NR F m (.slice none 0 0)) w := fun k hk => by
  rcases hk with hk | hk | hk
  ·
   exact .inl (.inl hk)
  ·
   exact .inl (.inr (.inl hk))
  ·
   cases hk
 refine ⟨⟨h.base, fun k hk hf => ?_, ⟨na', nn', nc', na', nn', nc', k2, h2.sta hN hR, h2.sta hN hR⟩, [], rfl, World.ownsRow_nil _ _ _ _, fun r hr => by cases hr⟩, rfl, rfl, rfl, by rw [hz]; exact Nat.le_refl _, fun k hk hn => ho k fun e => hn (.inl e), fun k hk => ?_⟩
 ·
  rcases hk with hk | hk
  ·
   exact h.noF k (.inl hk) hf
  ·
   cases hk
 ·
  rcases hk with hk | hk
  ·
   exact .inl (.inl hk)
  ·
   cases hk
set_option maxRecDepth 100000 in
set_option maxHeartbeats 8000000 in
theorem rsync_c {F : Nat → Prop} {B m : Nat} {lv : Value} {A : Ad} {w : World} (h : RDK F B m lv A w) (hfu : A.fuse ≤ 9223372036854775807) : Calls Tryz.prog 14 #[.pointer (some ⟨m, 0, none⟩)] w (StpR F B m lv w A.sync.2 A.sync.1) := by
 obtain ⟨na, nn, nc, sa, sn, sc, ⟨-, -, -, -, -, c5⟩, -, -, -⟩ := h.cells
 have HP := Lib.hid (rpower_c h hfu)
 have HK := Lib.hid h
 rcases down_cases A with hd | hd
 ·
  rw [show A.sync = (A, 5) by unfold Ad.sync; rw [if_pos hd]]
  rw [hd] at c5
  clear h
  go_enter Tryz.func14, Tryz.ntmps14
  go_wp2_with fail
  go_ret
  exact ⟨rfl, _, HK.out, MvR.refl _ _ _⟩
 rw [hd] at c5
 by_cases hf : A.fuse = 0
 ·
  rw [show A.sync = (A.off, 5) by unfold Ad.sync; rw [hd, if_pos hf]; rfl]
  have hpw : A.pow = (A.off, false) := by unfold Ad.pow; rw [if_pos hf]
  rw [hpw] at HP
  clear h hf hpw
  go_enter Tryz.func14, Tryz.ntmps14
  go_wp2_with fail
  refine HP.out.mono ?_
  rintro e2 w2 ⟨rfl, hk2, hm2⟩
  have HK2 := Lib.hid hk2
  have HM2 := Lib.hid hm2
  clear hk2 hm2 HP
  go_wp2_with fail
  go_ret
  exact ⟨rfl, _, HK2.out, HM2.out⟩
 rw [show A.sync = ({ A.spent with sure := A.now, loose := [] }, 0) by unfold Ad.sync; rw [hd, if_neg hf]; rfl]
 have hpw : A.pow = (A.spent, true) := by unfold Ad.pow; rw [if_neg hf]
 rw [hpw] at HP
 clear h hf hpw
 go_enter Tryz.func14, Tryz.ntmps14
 go_wp2_with fail
 refine HP.out.mono ?_
 rintro e2 w2 ⟨rfl, hk2, hm2⟩
 obtain ⟨na2, nn2, nc2, sa2, sn2, sc2, ⟨-, d1, d2, d3, -, -⟩, dz, -, -⟩ := hk2.cells
 have z2 := dz 2
 have z3 := dz 3
 obtain ⟨k3, m3⟩ := hk2.synced d1
 have HK3 := Lib.hid k3
 have HM3 := Lib.hid (hm2.trans m3)
 obtain ⟨lvv, hlv⟩ : ∃ a n c, lv = .slice a n c := by
  obtain ⟨ps, _, h2, _⟩ := hk2.hl
  rcases h2.2 with ⟨h1, _⟩ | ⟨g, cap, cur, h1, _⟩
  ·
   exact ⟨_, _, _, h1⟩
  ·
   exact ⟨_, _, _, h1⟩
 clear hk2 hm2 HP k3 m3 dz
 go_wp2_with fail
 go_ret
 exact ⟨rfl, _, HK3.out, HM3.out⟩
def clampI (n most : Int) : Int := if n < 0 then 0 else if most < n then most else n
set_option maxRecDepth 100000 in
set_option maxHeartbeats 8000000 in
theorem rclamp_c (n most : Int) (w : World) : Calls Tryz.prog 104 #[.int .i64 n, .int .i64 most] w fun e w' => e = .returned (.int .i64 (clampI n most)) ∧ w' = w := by
 unfold clampI
 by_cases h0 : n < 0
 ·
  rw [if_pos h0]
  go_enter Tryz.func104, Tryz.ntmps104
  go_wp2_with fail
  go_ret
  exact ⟨rfl, rfl⟩
 ·
  rw [if_neg h0]
  by_cases h1 : most < n
  ·
   rw [if_pos h1]
   go_enter Tryz.func104, Tryz.ntmps104
   go_wp2_with fail
   go_ret
   exact ⟨rfl, rfl⟩
  ·
   rw [if_neg h1]
   go_enter Tryz.func104, Tryz.ntmps104
   go_wp2_with fail
   go_ret
   exact ⟨rfl, rfl⟩
theorem clamp_eq {x : Int} {n : Nat} : clampI x (n : Int) = ((min x.toNat n : Nat) : Int) := by
 unfold clampI
 split
 ·
  omega
 ·
  split <;> omega
theorem rdo_c {N : Nat → Prop} {w : World} {a : Option Addr} {len cap : Nat} {l : Fls} (h : RF N w a len l) (hN : ∀ k, N k → k < w.heap.size) (c : DCh) (ta : Option Addr) (tn tc : Nat) (hp : RB N w ta tn tc c.p) (hm : len ≤ 100000000) (hk : c.kind ≤ 3) (hl : c.kind ≠ 0 → ∃ z, lookF l c.a = some z ∧ (c.kind = 1 → z.length + c.p.length ≤ 1000000000)) :
  Calls Tryz.prog 86 #[.slice a len cap, .agg #[.int .i64 (c.kind : Int), .string c.a, .string c.b, .slice ta tn tc]] w (RetF N (doF l c) w) := by
 obtain ⟨k, s, t, p⟩ := c
 simp only at hk hl hp
 match k, hk, hl with
 | 0, _, _ => exact rdo0_c h hN s t (.slice ta tn tc) ⟨_, _, _, rfl⟩ hm
 | 1, _, hl =>
  obtain ⟨z, hz, hb⟩ := hl (by decide)
  exact rdo1_c h hN s t ta tn tc hm hz hp (hb rfl)
 | 2, _, _ => exact rdo2_c h hN s t ta tn tc hm
 | 3, _, hl =>
  obtain ⟨z, hz, hb⟩ := hl (by decide)
  exact rdo3_c h hN s t ta tn tc hm hz
theorem rmay_c {F : Nat → Prop} {B m : Nat} {lv : Value} {A : Ad} {w : World} (h : RDK F B m lv A w) (c : DCh) (hk : c.kind ≤ 3) (pa : Option Addr) (pn pc : Nat) (hpl : c.p.length = pn) (hs : c.a.size ≤ maxLen) (ht : c.b.size ≤ maxLen) (hm : A.now.length ≤ 100000000) (hu : usedF A.now ≤ 1000000000) (hr0 : 0 ≤ A.room) (hr1 : A.room ≤ 1000000000) :
  Calls Tryz.prog 85 #[.pointer (some ⟨m, 0, none⟩), .agg #[.int .i64 (c.kind : Int), .string c.a, .string c.b, .slice pa pn pc]] w fun e w' => e = .returned (.int .i64 (A.may c)) ∧ Below w.heap.size w w' := by
 obtain ⟨k, s, t, p⟩ := c
 simp only at hk hpl hs ht
 match k, hk with
 | 0, _ => exact rmay0_c h ⟨0, s, t, p⟩ rfl pa pn pc hs hm
 | 1, _ => exact rmay1_c h s t p pa pn pc hm hpl hu hr0 hr1
 | 2, _ => exact rmay2_c h s t p pa pn pc hm
 | 3, _ => exact rmay3_c h s t p pa pn pc hm ht
theorem may_zero {A : Ad} {c : DCh} (h : A.may c = 0) (h0 : c.kind ≠ 0) : ∃ z, lookF A.now c.a = some z ∧ (c.kind = 1 → c.p.length ≤ 1048576 ∧ (usedF A.now : Int) + (c.p.length : Int) ≤ A.room) := by
 unfold Ad.may at h
 rw [if_neg h0] at h
 cases e : lookF A.now c.a with
 | none => rw [e] at h; simp at h
 | some z =>
  refine ⟨z, rfl, fun h1 => ?_⟩
  rw [e, if_neg (by simp), if_pos h1] at h
  split at h
  ·
   cases h
  ·
   split at h
   ·
    cases h
   ·
    omega
theorem rstep_any {F : Nat → Prop} {B m : Nat} {lv : Value} {A : Ad} {w : World} (h : RDK F B m lv A w) (hF : ∀ k, F k → k < w.heap.size) (c : DCh) (hk : c.kind ≤ 3) (pa : Option Addr) (pn pc : Nat) (hp : RB (NR F m lv) w pa pn pc c.p) (hpn : pn ≤ 140737488355327) (hs : c.a.size ≤ maxLen) (ht : c.b.size ≤ maxLen) (hsr : Srt A.now) (hm : A.now.length ≤ 100000000) (hu : usedF A.now ≤ 67108864) (hr0 : 0 ≤ A.room) (hr1 : A.room ≤ 67108864) (hfu : A.fuse ≤ 9223372036854775807) (hll : A.loose.length + 1 ≤ 1000000000) :
  Calls Tryz.prog 39 #[.pointer (some ⟨m, 0, none⟩), .agg #[.int .i64 (c.kind : Int), .string c.a, .string c.b, .slice pa pn pc]] w (StpR F B m lv w (A.step c).2 (A.step c).1) := by
 refine rstep_c h hF c pa pn pc hp hpn hfu hll (fun _ G W hW => rmay_c hW c hk pa pn pc hp.rd.1 hs ht hm (by omega) hr0 (by omega)) (fun h0 N W na nn nc ta tn tc hN hrf hrb => ?_)
 have hln := hrf.ln
 refine rdo_c hrf hN c ta tn tc hrb (by omega) hk fun hk0 => ?_
 obtain ⟨z, hz, h1⟩ := may_zero h0 hk0
 have hz2 := used_without (n := c.a) hsr
 rw [hz] at hz2
 simp only [Option.getD_some] at hz2
 refine ⟨z, hz, fun hk1 => ?_⟩
 have h2 := h1 hk1
 omega
end Go.Proofs.YtihbgigledmliaaGreat
namespace Go.Proofs.YtihbgigledmliaaGreat
open Go.RowKit
set_option linter.unusedVariables false
theorem length_doF (l : Fls) (o : DCh) : (doF l o).length ≤ l.length + 1 := by
 have w1 := fun (m : Fls) n => without_len m n
 unfold doF
 split
 ·
  rw [length_with]; omega
 ·
  split
  ·
   rw [length_with]; have := w1 l o.a; omega
  ·
   split
   ·
    have := w1 l o.a; omega
   ·
    rw [length_with]
    have h1 := w1 (withoutF l o.a) o.b
    have h2 := w1 l o.a
    omega
theorem length_fold (os : List DCh) : ∀ l : Fls, (os.foldl doF l).length ≤ l.length + os.length := by
 induction os with
 | nil => intro l; simp
 | cons o os ih =>
  intro l
  rw [List.foldl_cons]
  have h1 := ih (doF l o)
  have h2 := length_doF l o
  simp only [List.length_cons]
  omega
/-- a change that can be done -/
def Okc (R : Nat) (l : Fls) (o : DCh) : Prop := o.kind ≤ 3 ∧ (o.kind ≠ 0 → ∃ z, lookF l o.a = some z ∧ (o.kind = 1 → z.length + o.p.length ≤ R ∧ o.p.length ≤ 1048576))
theorem Chn.okc {R : Nat} {V : Vw} {c : Chg} {cs : List Chg} {l : Fls} {o : DCh} {os : List DCh} {sure : Fls} (h : Chn R V (c :: cs) l (o :: os) sure) : ∃ l', l = doF l' o ∧ Okc R l' o ∧ Chn R (V.undo c 0) cs l' os sure := by
 cases h with
 | @cons _ _ _ _ l' _ _ _ hab hu hd hf hch =>
  refine ⟨l', hd, ⟨hf.k3, fun h0 => ?_⟩, hch⟩
  have hab' := hch.ab
  have hk := hf.kind
  by_cases e1 : o.kind = 1
  ·
   obtain ⟨h1, h2, h2', h3, h4, h5⟩ := hf.k1 e1
   have hv : V.undo c 0 = V.bytes c.file ((V.zs c.file).take (c.size.toNat + 0)) := by
    unfold Vw.undo
    rw [if_neg (by omega), if_pos (by omega)]
   have hl : lookF l' o.a = some ((V.zs c.file).take c.size.toNat) := by
    rw [hab'.has (s := o.a) (b := c.file) (by rw [hv]; exact h1), hv]
    show some (if c.file = c.file then _ else _) = _
    rw [if_pos rfl, Nat.add_zero]
   refine ⟨_, hl, fun _ => ⟨?_, h5⟩⟩
   have e : (V.zs c.file).take c.size.toNat ++ o.p = V.zs c.file := by rw [← h4, List.take_append_drop]
   have e2 := congrArg List.length e
   rw [List.length_append] at e2
   have h9 := used_without (n := o.a) hab.srt
   rw [hab.has h1] at h9
   simp only [Option.getD_some] at h9
   omega
  ·
   by_cases e2 : o.kind = 2
   ·
    obtain ⟨h1, h2⟩ := hf.k2 e2
    have hv : V.undo c 0 = V.set (V.nm c.file) (some c.file) := by
     unfold Vw.undo
     rw [if_neg (by omega), if_neg (by omega), if_pos (by omega)]
    have hix : (V.undo c 0).ix o.a = some c.file := by
     rw [hv, h1]
     show (if o.a = o.a then _ else _) = _
     rw [if_pos rfl]
    exact ⟨_, hab'.has hix, fun h => absurd h e1⟩
   ·
    have e3 : o.kind = 3 := by have := hf.k3; omega
    obtain ⟨h1, h2, h3, h4⟩ := hf.k3a e3
    have hix : (V.undo c 0).ix o.a = some c.file := by
     unfold Vw.undo
     rw [if_neg (by omega), if_neg (by omega), if_neg (by omega)]
     rcases h4 with h4 | ⟨r, h4, h5, h6, h7⟩
     ·
      rw [h4, h2]
      show (if o.a = o.a then _ else _) = _
      rw [if_pos rfl]
     ·
      rw [h4, h2]
      show (if o.a = V.nm r then _ else if o.a = o.a then _ else _) = _
      rw [h6, if_neg h7, if_pos rfl]
    exact ⟨_, hab'.has hix, fun h => absurd h e1⟩
theorem Chn.allr {R : Nat} : ∀ (qs : List DCh) {V : Vw} {cs : List Chg} {l : Fls} {sure : Fls}, Chn R V cs l qs sure → ∀ k o, qs.reverse[k]? = some o → Okc R ((qs.reverse.take k).foldl doF sure) o := by
 intro qs
 induction qs with
 | nil => intro V cs l sure _ k o h; simp at h
 | cons x qs ih =>
  intro V cs l sure h k o hk
  rw [List.reverse_cons] at hk
  rw [List.reverse_cons]
  cases cs with
  | nil => cases h
  | cons c cs =>
   obtain ⟨l', h1, h2, h3⟩ := h.okc
   by_cases hkl : k < qs.reverse.length
   ·
    rw [List.getElem?_append_left hkl] at hk
    rw [List.take_append_of_le_length (by omega)]
    exact ih h3 k o hk
   ·
    rw [List.getElem?_append_right (by omega)] at hk
    have hz : k - qs.reverse.length = 0 := by
     have := (List.getElem?_eq_some_iff.1 hk).1
     rw [List.length_singleton] at this
     omega
    rw [hz] at hk
    cases hk
    have e : k = qs.reverse.length := by omega
    rw [e, List.take_left]
    have h9 := h3.fold
    rw [List.foldl_reverse, ← h9]
    exact h2
theorem Chn.all {R : Nat} (ps : List DCh) {V : Vw} {cs : List Chg} {l : Fls} {sure : Fls} (h : Chn R V cs l ps.reverse sure) : ∀ k o, ps[k]? = some o → Okc R ((ps.take k).foldl doF sure) o := by
 intro k o hk
 have h1 := h.allr _ k o (by rw [List.reverse_reverse]; exact hk)
 rwa [List.reverse_reverse] at h1
end Go.Proofs.YtihbgigledmliaaGreat

namespace Go.Proofs.YtihbgigledmliaaGreat
open Go.RowKit
set_option linter.unusedVariables false
theorem op_callC {P : Program} {ops : Array Oper} {Q : Exit → Act → World → Prop} {i : Nat} {d : Option Tmp} {f : FuncId} {xs : Array Operand} {ts : Array TypeId} {vs : Array Value} {a : Act} {w : World} {K : Act → World → Prop} {R : Ending → World → Prop}
  (hi : (ops[i]?.map fun o => (o.dst, o.op, o.guard)) = some (d, Op.call { callee := .value (.func f), args := xs, argTypes := ts }, none)) (hx : xs.map a.eval = vs)
  (hf : (callFunc f vs).run P w = .ok (.enter f vs) w) (hc : Calls P f vs w R)
  (h : ∀ e w', R e w' → ∃ v, e = .returned v ∧ K (a.put d v) w') : wpOp P ops Q i K a w := by
 cases ho : ops[i]? with
 | none => simp [ho] at hi
 | some o =>
  simp only [ho, Option.map_some, Option.some.injEq, Prod.mk.injEq] at hi
  obtain ⟨h1, h2, h3⟩ := hi
  unfold wpOp
  simp only [ho, wanted_plain h3, if_true]
  refine .inl ?_
  have hr : (execOp a.eval o).run P w = .ok (.enter f vs) w := by
   unfold execOp
   rw [h2]
   simp [resolve, invoke, hx, Act.eval, go_sem, hf]
  unfold Oper.wp
  rw [hr]
  refine hc.mono fun e w' hR => ?_
  obtain ⟨v, rfl, hv⟩ := h e w' hR
  rw [h1]
  exact hv
theorem dcells_get : ∀ (ps : List DR) (i : Nat) (r : DR), ps[i]? = some r → (dcells ps)[4 * i]? = some (.int .i64 (r.1.kind : Int)) ∧ (dcells ps)[4 * i + 1]? = some (.string r.1.a) ∧ (dcells ps)[4 * i + 2]? = some (.string r.1.b) ∧ (dcells ps)[4 * i + 3]? = some r.2
 | [], i, r, h => by simp at h
 | x :: ps, 0, r, h => by cases h; exact ⟨rfl, rfl, rfl, rfl⟩
 | x :: ps, i + 1, r, h => by
  have := dcells_get ps i r h
  unfold dcells at this ⊢
  rw [List.flatMap_cons, show 4 * (i + 1) = 4 * i + 4 by omega]
  exact this
/-- what stands at a place of the loose changes -/
def LC (w : World) (g i : Nat) (o : DCh) (ra : Option Addr) (rn rc : Nat) : Prop := w.cell? ⟨g, 4 * i, none⟩ = some (.int .i64 (o.kind : Int)) ∧ w.cell? ⟨g, 4 * i + 1, none⟩ = some (.string o.a) ∧ w.cell? ⟨g, 4 * i + 2, none⟩ = some (.string o.b) ∧ w.cell? ⟨g, 4 * i + 3, none⟩ = some (.slice ra rn rc)
theorem RDK.lcell {F : Nat → Prop} {B m : Nat} {lv : Value} {A : Ad} {w : World} (h : RDK F B m lv A w) : ∃ la c, lv = .slice la A.loose.length c ∧ A.loose.length ≤ c ∧ ∀ i o, A.loose[i]? = some o → ∃ g ra rn rc, la = some ⟨g, 0, none⟩ ∧ LC w g i o ra rn rc ∧ RB (NR F m lv) w ra rn rc o.p := by
 obtain ⟨ps, h1, h2, h3⟩ := h.hl
 have hpl : ps.length = A.loose.length := by rw [← h1, List.length_map]
 rcases h2.2 with ⟨e1, e2⟩ | ⟨g, c, cur, e1, e2, e3, e4, e5, e6, e7⟩
 ·
  have h0 : A.loose.length = 0 := by omega
  exact ⟨none, 0, by rw [h0]; exact e1, by omega, fun i o ho => by have := (List.getElem?_eq_some_iff.1 ho).1; omega⟩
 ·
  refine ⟨_, c, by rw [← hpl]; exact e1, by omega, fun i o ho => ?_⟩
  have hi : i < ps.length := by rw [hpl]; exact (List.getElem?_eq_some_iff.1 ho).1
  have hr := List.getElem?_eq_getElem hi
  have ho2 : ps[i].1 = o := by
   have : (ps.map (·.1))[i]? = some ps[i].1 := by rw [List.getElem?_map, hr]; rfl
   rw [h1, ho] at this
   exact (Option.some.inj this).symm
  obtain ⟨ra, rn, rc, h4, h5⟩ := h3 ps[i] (List.getElem_mem hi)
  obtain ⟨q0, q1, q2, q3⟩ := dcells_get ps i _ hr
  rw [ho2] at q0 q1 q2 h5
  rw [h4] at q3
  have hc : ∀ j v, j < 4 → (dcells ps)[4 * i + j]? = some v → w.cell? ⟨g, 4 * i + j, none⟩ = some v := fun j v hj hv => by
   rw [cell_of_row w g _ cur _ _ e3, ← Array.getElem?_toList, ← hv, ← e7, List.getElem?_take, if_pos (by omega)]
  exact ⟨g, ra, rn, rc, rfl, ⟨hc 0 _ (by omega) q0, hc 1 _ (by omega) q1, hc 2 _ (by omega) q2, hc 3 _ (by omega) q3⟩, h5⟩
theorem exec_chg_idx {b len cap i : Nat} (hi : i < len) {A : Act} {x y : Operand} (hx : A.eval x = .slice (some ⟨b, 0, none⟩) len cap) (hy : A.eval y = .int .i64 (i : Int)) (op : Oper) (ho : op.op = .indexAddr 82 x y) (W : World) :
  (execOp A.eval op).run Tryz.prog W = .ok (.value (.pointer (some ⟨b, 4 * i, none⟩))) W := by
 unfold execOp
 simp only [ho, hx, hy]
 rw [Sem.run_bind, run_indexAt_slice W 82 ⟨b, 0, none⟩ len cap .i64 (i : Int) (by kernel_rfl)]
 have h1 : (0 : Int) ≤ (i : Int) ∧ (i : Int) < (len : Int) := by omega
 rw [if_pos h1, show (Go.sizeOf (Tryz.prog.elem 82)).run Tryz.prog W = .ok 4 W from by kernel_rfl]
 simp [Result.andThen, Addr.add, Nat.mul_comm]
 intro h; omega
theorem run_chgs_idx (W : World) (b len cap i : Nat) (hi : i < len) : (Instr.indexAt 82 (.slice (some ⟨b, 0, none⟩) len cap) (.int .i64 (i : Int))).run Tryz.prog W = .ok (.pointer (some ⟨b, 4 * i, none⟩)) W := by
 rw [run_indexAt_slice W 82 ⟨b, 0, none⟩ len cap .i64 (i : Int) (by kernel_rfl)]
 have h1 : (0 : Int) ≤ (i : Int) ∧ (i : Int) < (len : Int) := by omega
 rw [if_pos h1, show (Go.sizeOf (Tryz.prog.elem 82)).run Tryz.prog W = .ok 4 W from by kernel_rfl]
 simp [Result.andThen, Addr.add, Nat.mul_comm]
 intro h; omega
theorem run_LC (W : World) (g i : Nat) (o : DCh) (ra : Option Addr) (rn rc : Nat) (h : LC W g i o ra rn rc) : (Instr.loadAt 94 (.pointer (some ⟨g, 4 * i, none⟩))).run Tryz.prog W = .ok (.agg #[.int .i64 (o.kind : Int), .string o.a, .string o.b, .slice ra rn rc]) W := by
 obtain ⟨h0, h1, h2, h3⟩ := h
 go_simp
theorem RB.take {N : Nat → Prop} {w : World} {a : Option Addr} {n c : Nat} {zs : List Nat} (h : RB N w a n c zs) (j : Nat) (hj : j ≤ n) : RB N w a j c (zs.take j) := ⟨h.rd.take j hj, fun b o s e hn => h.no b o s e (by omega), h.nil, Nat.le_trans hj h.le⟩
/-- Sure is another list -/
def Ad.sured (A : Ad) (l : Fls) : Ad := { A with sure := l }
/-- no change is loose -/
theorem RDK.emptied {F : Nat → Prop} {B m : Nat} {lv : Value} {A : Ad} {w : World} (h : RDK F B m lv A w) :
  RDK F B m (.slice none 0 0) { A with loose := [] } (w.setCell ⟨m, 3, none⟩ (.slice none 0 0)) ∧ MvR m lv (.slice none 0 0) w (w.setCell ⟨m, 3, none⟩ (.slice none 0 0)) := by
 obtain ⟨na', nn', nc', sa, sn, sc, h1, h2, h3⟩ := h.hd
 have k2 := row_set h1 (.slice none 0 0) (o := 3) (by show 3 < 6; omega)
 have ho : ∀ k, k ≠ m → (w.setCell ⟨m, 3, none⟩ (.slice none 0 0)).heap[k]? = w.heap[k]? := fun k hk => Below.heap_setCell w ⟨m, 3, none⟩ _ k hk
 have hz : (w.setCell ⟨m, 3, none⟩ (.slice none 0 0)).heap.size = w.heap.size := by simp [World.setCell]
 have hN : Sta (NR F m lv) w (w.setCell ⟨m, 3, none⟩ (.slice none 0 0)) := ⟨by rw [hz]; exact Nat.le_refl _, fun k hk hn => ho k fun e => hn (.inr (.inl e))⟩
 have hR : Ren (NR F m lv) (NR F m (.slice none 0 0)) w := fun k hk => by
  rcases hk with hk | hk | hk
  ·
   exact .inl (.inl hk)
  ·
   exact .inl (.inr (.inl hk))
  ·
   cases hk
 refine ⟨⟨h.base, fun k hk hf => ?_, ⟨na', nn', nc', sa, sn, sc, k2, h2.sta hN hR, h3.sta hN hR⟩, [], rfl, World.ownsRow_nil _ _ _ _, fun r hr => by cases hr⟩, rfl, rfl, rfl, by rw [hz]; exact Nat.le_refl _, fun k hk hn => ho k fun e => hn (.inl e), fun k hk => ?_⟩
 ·
  rcases hk with hk | hk
  ·
   exact h.noF k (.inl hk) hf
  ·
   cases hk
 ·
  rcases hk with hk | hk
  ·
   exact .inl (.inl hk)
  ·
   cases hk
/-- Now becomes Sure, no change is loose, the power is up -/
theorem RDK.crashed {F : Nat → Prop} {B m : Nat} {lv : Value} {A : Ad} {w : World} (h : RDK F B m lv A w) {sa : Option Addr} {sn sc : Nat} (hc : w.cell? ⟨m, 2, none⟩ = some (.slice sa sn sc)) :
  RDK F B m (.slice none 0 0) ⟨A.room, -1, false, A.sure, A.sure, []⟩ ((((w.setCell ⟨m, 1, none⟩ (.slice sa sn sc)).setCell ⟨m, 3, none⟩ (.slice none 0 0)).setCell ⟨m, 4, none⟩ (.int .i64 (-1))).setCell ⟨m, 5, none⟩ (.bool false)) ∧ MvR m lv (.slice none 0 0) w ((((w.setCell ⟨m, 1, none⟩ (.slice sa sn sc)).setCell ⟨m, 3, none⟩ (.slice none 0 0)).setCell ⟨m, 4, none⟩ (.int .i64 (-1))).setCell ⟨m, 5, none⟩ (.bool false)) := by
 obtain ⟨k1, m1⟩ := h.cellSet 1 (.slice sa sn sc) { A with now := A.sure } (na := none) (sa := none) (nn := 0) (nc := 0) (sn := 0) (sc := 0) (fun na nn nc sa' sn' sc' h1 h2 h3 => by
  have e : some (Value.slice sa' sn' sc') = some (.slice sa sn sc) := ((cell_of_row w m 2 _ _ _ h1).trans rfl).symm.trans hc
  obtain ⟨e1, e2, e3⟩ := Value.slice.inj (Option.some.inj e)
  subst e1 e2 e3
  exact ⟨sa', sn', sc', sa', sn', sc', rfl, h3, h3⟩) (by omega) rfl
 obtain ⟨k2, m2⟩ := k1.emptied
 obtain ⟨k3, m3⟩ := k2.cellSet 4 (.int .i64 (-1)) ⟨A.room, -1, A.down, A.sure, A.sure, []⟩ (na := none) (sa := none) (nn := 0) (nc := 0) (sn := 0) (sc := 0) (fun na nn nc sa sn sc _ h2 h3 => ⟨na, nn, nc, sa, sn, sc, rfl, h2, h3⟩) (by omega) rfl
 obtain ⟨k4, m4⟩ := k3.cellSet 5 (.bool false) ⟨A.room, -1, false, A.sure, A.sure, []⟩ (na := none) (sa := none) (nn := 0) (nc := 0) (sn := 0) (sc := 0) (fun na nn nc sa sn sc _ h2 h3 => ⟨na, nn, nc, sa, sn, sc, rfl, h2, h3⟩) (by omega) rfl
 exact ⟨k4, ((m1.trans m2).trans m3).trans m4⟩
/-- what Crash leaves -/
def CrR (F : Nat → Prop) (B m : Nat) (lv : Value) (w : World) (A' : Ad) (e : Ending) (w' : World) : Prop := e = .returned (.tuple #[]) ∧ ∃ lv', RDK F B m lv' A' w' ∧ MvR m lv lv' w w'
set_option maxRecDepth 100000 in
set_option maxHeartbeats 8000000 in
theorem rcrash_c {F : Nat → Prop} {B m : Nat} {lv : Value} {A : Ad} {w : World} (h : RDK F B m lv A w) (hF : ∀ k, F k → k < w.heap.size) (keep part : Int) (hok : ∀ k o, A.loose[k]? = some o → Okc 67108864 ((A.loose.take k).foldl doF A.sure) o) (hall : A.loose.foldl doF A.sure = A.now) (hlen : A.sure.length + A.loose.length ≤ 10000000) :
  Calls Tryz.prog 53 #[.pointer (some ⟨m, 0, none⟩), .int .i64 keep, .int .i64 part] w (CrR F B m lv w (A.crash keep part)) := by
 obtain ⟨kk, hkk⟩ : ∃ kk, kk = min keep.toNat A.loose.length := ⟨_, rfl⟩
 obtain ⟨la, lc, hlv, hlc, hcell⟩ := h.lcell
 obtain ⟨na0, nn0, nc0, sa0, sn0, sc0, ⟨-, -, -, c3, -, -⟩, -, -, -⟩ := h.cells
 rw [hlv] at c3
 have HCL := Lib.hid (rclamp_c keep (A.loose.length : Int) w)
 rw [clamp_eq, ← hkk] at HCL
 have HKK := Lib.hid hkk
 have HLV := Lib.hid hlv
 have HF := Lib.hid hF
 have HOKS := Lib.hid hok
 have HALL := Lib.hid hall
 have HLS := Lib.hid hlen
 have HK0 := Lib.hid h
 have HK00 := Lib.hid (show RDK F B m lv (A.sured ((A.loose.take 0).foldl doF A.sure)) w from h)
 have hkn : kk ≤ A.loose.length := by omega
 have hll : A.loose.length ≤ 10000000 := by omega
 clear h hF hlv hcell hok hall hkk hlen
 go_enter Tryz.func53, Tryz.ntmps53
 go_wp2_with fail
 refine HCL.out.mono ?_
 rintro e1 w1 ⟨rfl, rfl⟩
 clear HCL c3
 go_wp2_with fail
 go_loopw [6] (fun i wr => ∃ k : Nat, k ≤ kk ∧ i = .int .i64 k ∧ Hid (RDK F B m lv (A.sured ((A.loose.take k).foldl doF A.sure)) wr) ∧ Hid (MvR m lv lv w1 wr)) (fun i _ => kk - (intOf i).toNat)
 case atStart => exact ⟨0, Nat.zero_le _, rfl, HK00, Lib.hid (MvR.refl _ _ _)⟩
 case round =>
  clear HK00
  obtain ⟨k, hk, rfl, HK, HM⟩ := hrel
  by_cases hkk : k < kk
  ·
   have hkl : k < A.loose.length := by omega
   obtain ⟨o, ho⟩ : ∃ o, A.loose[k]? = some o := ⟨_, List.getElem?_eq_getElem hkl⟩
   have HNX := Lib.hid (show (A.loose.take (k + 1)).foldl doF A.sure = doF ((A.loose.take k).foldl doF A.sure) o by rw [List.take_add_one, ho, List.foldl_append]; rfl)
   have HOK := Lib.hid (HOKS.out k o ho)
   have HLL := Lib.hid (show ((A.loose.take k).foldl doF A.sure).length ≤ 10000000 from by have h1 := length_fold (A.loose.take k) A.sure; rw [List.length_take] at h1; have := HLS.out; omega)
   obtain ⟨l, hl⟩ : ∃ l, l = (A.loose.take k).foldl doF A.sure := ⟨_, rfl⟩
   rw [← hl] at HNX HOK HLL HK
   obtain ⟨la2, lc2, hlv2, hlc2, hcell⟩ := HK.out.lcell
   obtain ⟨e1, -, e3⟩ := Value.slice.inj (HLV.out.symm.trans hlv2)
   subst e1 e3
   obtain ⟨g, ra, rn, rc, rfl, hlcc, hrb⟩ := hcell k o ho
   have HLC := Lib.hid hlcc
   have HRB := Lib.hid hrb
   have HGO := Lib.hid (show OwnR m lv g from .inr (by rw [HLV.out]; rfl))
   have HGN := Lib.hid (show g ≠ m from fun e => HK.out.ne (by rw [← e, HLV.out]; rfl))
   have HGL := Lib.hid (show ∀ W : World, w1.heap.size ≤ W.heap.size → g < W.heap.size from fun W hW => Nat.lt_of_lt_of_le (HK0.out.ownLt HGO.out).2 hW)
   have c3 : wr.cell? ⟨m, 3, none⟩ = some (.slice (some ⟨g, 0, none⟩) A.loose.length lc) := by
    obtain ⟨_, _, _, _, _, _, ⟨-, -, -, d3, -⟩, -⟩ := HK.out.cells
    rw [d3, HLV.out]
   clear ho hl hlv2 hlc2 hcell hlcc hrb
   go_wp2_with fail
   (try dsimp only [Act.put, sT, sZ, sS])
   obtain ⟨w5, hw5⟩ : ∃ w5, w5 = World.drew wr := ⟨_, rfl⟩
   have HK5 := Lib.hid (show RDK F B m lv (A.sured l) w5 from by rw [hw5]; exact HK.out.below (Below.refl _ _).drew)
   have HM5 := Lib.hid (show MvR m lv lv w1 w5 from by rw [hw5]; exact HM.out.trans (MvR.ofBelow (Below.refl _ _).drew))
   have HRB5 := Lib.hid (show RB (NR F m lv) w5 ra rn rc o.p from by rw [hw5]; exact HRB.out.below (Below.refl _ _).drew)
   have HS := Lib.hid (show World.cell? w5 ⟨m, 3, none⟩ = some (.slice (some ⟨g, 0, none⟩) A.loose.length lc) ∧ LC w5 g k o ra rn rc from by rw [hw5]; exact ⟨c3, HLC.out⟩)
   obtain ⟨_, _, _, sa, sn, sc, ⟨-, -, d2, -, -, -⟩, -, -, hsure⟩ := HK5.out.cells
   have HLN5 := Lib.hid hsure.ln
   have HDO5 := Lib.hid (rdo_c (cap := sc) hsure (fun k hk => by rcases hk with hk | hk; exact Nat.lt_of_lt_of_le (HF.out k hk) HM5.out.size; exact (HK5.out.ownLt hk).2) o ra rn rc HRB5.out (by have h1 := HLN5.out; have h2 : (A.sured l).sure.length ≤ 10000000 := HLL.out; omega) HOK.out.1 (fun h0 => by obtain ⟨z, h1, h2⟩ := HOK.out.2 h0; exact ⟨z, h1, fun h3 => by have := (h2 h3).1; omega⟩))
   have HL2 := Lib.hid (run_cell_fl w5 ⟨m, 2, none⟩ _ _ _ d2)
   have HL3 := Lib.hid (fun W (hW : World.cell? W ⟨m, 3, none⟩ = some (.slice (some ⟨g, 0, none⟩) A.loose.length lc) ∧ LC W g k o ra rn rc) => run_cell_cs W ⟨m, 3, none⟩ _ _ _ hW.1)
   have HL4 := Lib.hid (fun W (hW : World.cell? W ⟨m, 3, none⟩ = some (.slice (some ⟨g, 0, none⟩) A.loose.length lc) ∧ LC W g k o ra rn rc) => run_LC W g k o ra rn rc hW.2)
   have HGM := Lib.hid (show g ≠ m from HGN.out)
   refine anyH_begin (S := fun W => World.cell? W ⟨m, 3, none⟩ = some (.slice (some ⟨g, 0, none⟩) A.loose.length lc) ∧ LC W g k o ra rn rc) (by kernel_rfl) ?_
   rw [← hw5]
   clear hw5 d2 hsure c3 HK HM HRB HLC
   refine aP 0 (d := 20) (op := .move (.tmp 0)) (.pointer (some ⟨m, 0, none⟩)) HS.out ?_
   simp only [Act.put, sT, sZ, sS]
   refine aP 1 (d := 21) (op := .move (.tmp 0)) (.pointer (some ⟨m, 0, none⟩)) HS.out ?_
   simp only [Act.put, sT, sZ, sS]
   refine aP 2 (d := 22) (op := .nilCheck (.tmp 21)) (.pointer (some ⟨m, 0, none⟩)) HS.out ?_
   simp only [Act.put, sT, sZ, sS]
   refine aP 3 (d := 23) (op := .fieldAddr 84 (.tmp 22) 2) (.pointer (some ⟨m, 2, none⟩)) HS.out ?_
   simp only [Act.put, sT, sZ, sS]
   refine aP 5 (d := 25) (op := .move (.tmp 0)) (.pointer (some ⟨m, 0, none⟩)) HS.out ?_
   simp only [Act.put, sT, sZ, sS]
   refine aP 6 (d := 26) (op := .nilCheck (.tmp 25)) (.pointer (some ⟨m, 0, none⟩)) HS.out ?_
   simp only [Act.put, sT, sZ, sS]
   refine aP 7 (d := 27) (op := .fieldAddr 84 (.tmp 26) 3) (.pointer (some ⟨m, 3, none⟩)) HS.out ?_
   simp only [Act.put, sT, sZ, sS]
   refine aL 8 (d := 28) (ty := 82) (x := (.tmp 27)) (p := .pointer (some ⟨m, 3, none⟩)) (.slice (some ⟨g, 0, none⟩) A.loose.length lc) HL3.out HS.out ?_
   simp only [Act.put, sT, sZ, sS]
   refine aP 9 (d := 29) (op := .move (.tmp 6)) (.int .i64 (k : Int)) HS.out ?_
   simp only [Act.put, sT, sZ, sS]
   refine anyH_pureG 10 (d := 30) (op := .indexAddr 82 (.tmp 28) (.tmp 29)) (gd := none) (.pointer (some ⟨g, 4 * k, none⟩)) (by rfl) wantedP (by kernel_rfl) (by kernel_rfl) (by kernel_rfl) (fun _ _ _ h => h) (fun o1 ho W hW => exec_chg_idx hkl (x := .tmp 28) (y := .tmp 29) (by rfl) (by rfl) o1 ho W) HS.out ?_
   simp only [Act.put, sT, sZ, sS]
   refine aL 11 (d := 31) (ty := 94) (x := (.tmp 30)) (p := .pointer (some ⟨g, 4 * k, none⟩)) (.agg #[.int .i64 (o.kind : Int), .string o.a, .string o.b, .slice ra rn rc]) HL4.out HS.out ?_
   simp only [Act.put, sT, sZ, sS]
   refine wpAnyH_all (rs := [4]) (by kernel_rfl) (by simp) ?_
   intro k hk; simp only [List.mem_cons, List.not_mem_nil, or_false] at hk; subst hk
   refine op_atJ 4 (d := some 24) (op := .load 81 (.tmp 23)) (by rfl) ?_
   intro o4 hod4 hoo4
   refine wp_load_g 81 (.tmp 23) hoo4 (.pointer (some ⟨m, 2, none⟩)) (.slice sa sn sc) (by rfl) HL2.out ?_
   rw [hod4]
   clear hod4 hoo4
   simp only [Act.put, sT, sZ, sS]
   refine ⟨HS.out, ?_⟩
   refine anyH_callG 12 (d := some 32) (f := 86) (xs := #[(.tmp 24), (.tmp 31)]) (ts := #[81, 94]) (gd := none) (vs := #[.slice sa sn sc, .agg #[.int .i64 (o.kind : Int), .string o.a, .string o.b, .slice ra rn rc]]) (by kernel_rfl) (by rfl) wantedP (by go_simp) (by go_simp) (HDO5.out) ?_
   rintro e6 w6 ⟨ya, yl, yc, rfl, hrf6, hb6⟩
   have HK6 := Lib.hid (HK5.out.below hb6)
   have HM6 := Lib.hid (HM5.out.trans (MvR.ofBelow hb6))
   have HRF6 := Lib.hid hrf6
   have HS := Lib.hid (show World.cell? w6 ⟨m, 3, none⟩ = some (.slice (some ⟨g, 0, none⟩) A.loose.length lc) ∧ LC w6 g k o ra rn rc from ⟨(hb6.cell (p := ⟨m, 3, none⟩) HK5.out.lt).trans HS.out.1, by obtain ⟨q0, q1, q2, q3⟩ := HS.out.2; have hg := HGL.out w5 HM5.out.size; exact ⟨(hb6.cell (p := ⟨g, 4 * k, none⟩) hg).trans q0, (hb6.cell (p := ⟨g, 4 * k + 1, none⟩) hg).trans q1, (hb6.cell (p := ⟨g, 4 * k + 2, none⟩) hg).trans q2, (hb6.cell (p := ⟨g, 4 * k + 3, none⟩) hg).trans q3⟩⟩)
   clear hb6 hrf6 HK5 HM5 HRB5 HDO5 HL2
   refine ⟨_, rfl, HS.out, fun _ => ?_⟩
   simp only [Act.put, sT, sZ, sS]
   refine aP 13 (d := 33) (op := .nilCheck (.tmp 20)) (.pointer (some ⟨m, 0, none⟩)) HS.out ?_
   simp only [Act.put, sT, sZ, sS]
   refine aP 14 (d := 34) (op := .fieldAddr 84 (.tmp 33) 2) (.pointer (some ⟨m, 2, none⟩)) HS.out ?_
   simp only [Act.put, sT, sZ, sS]
   obtain ⟨k7, m7⟩ := HK6.out.cellSet 2 (.slice ya yl yc) (A.sured (doF l o)) (na := none) (sa := none) (nn := 0) (nc := 0) (sn := 0) (sc := 0) (fun na nn nc sa sn sc _ h2 h3 => ⟨na, nn, nc, ya, yl, yc, rfl, h2, HRF6.out⟩) (by omega) rfl
   have HTH := Lib.hid (show w6.there m 2 1 from fun j hj => by
    obtain rfl : j = 0 := by omega
    obtain ⟨_, _, _, _, _, _, ⟨-, -, d2, -⟩, dz, -⟩ := HK6.out.cells
    exact ⟨by rw [Nat.add_zero, d2]; rfl, dz 2⟩)
   have HK7 := Lib.hid k7
   have HM7 := Lib.hid (HM6.out.trans m7)
   refine wpAnyH_all (rs := [15]) (by kernel_rfl) (by simp) ?_
   intro k hk; simp only [List.mem_cons, List.not_mem_nil, or_false] at hk; subst hk
   refine op_atJ 15 (d := none) (op := .store 81 (.tmp 34) (.tmp 32)) (by rfl) ?_
   intro o7 hod7 hoo7
   refine wp_store_one 81 (.tmp 34) (.tmp 32) hoo7 m 2 (.slice ya yl yc) (by rfl) (by rfl) HTH.out (by kernel_rfl) (by rfl) (by rfl) ?_
   rw [hod7]
   clear hod7 hoo7 k7 m7
   simp only [Act.put, sT, sZ, sS]
   have HS7 := Lib.hid (show World.cell? (w6.setCells m 2 [.slice ya yl yc]) ⟨m, 3, none⟩ = some (.slice (some ⟨g, 0, none⟩) A.loose.length lc) ∧ LC (w6.setCells m 2 [.slice ya yl yc]) g k o ra rn rc from ⟨by
     obtain ⟨_, _, _, _, _, _, ⟨-, -, -, d3, -⟩, -⟩ := HK7.out.cells
     exact d3.trans (congrArg some HLV.out), by
     obtain ⟨q0, q1, q2, q3⟩ := HS.out.2
     have q : ∀ i, (w6.setCells m 2 [.slice ya yl yc]).cell? ⟨g, i, none⟩ = w6.cell? ⟨g, i, none⟩ := fun i => World.cell?_of_block (one_heap HGM.out)
     exact ⟨(q _).trans q0, (q _).trans q1, (q _).trans q2, (q _).trans q3⟩⟩)
   obtain ⟨w7, hw7⟩ : ∃ w7, w7 = w6.setCells m 2 [.slice ya yl yc] := ⟨_, rfl⟩
   have HK7 := Lib.hid (show RDK F B m lv (A.sured (doF l o)) w7 from by rw [hw7]; exact HK7.out)
   have HM7 := Lib.hid (show MvR m lv lv w1 w7 from by rw [hw7]; exact HM7.out)
   rw [← hw7] at HS7 ⊢
   clear hw7
   refine ⟨HS7.out, ?_⟩
   refine wpAnyH_done (by kernel_rfl) ?_ _
   clear HS HS7 HTH HK6 HM6 HRF6 HL3 HL4
   go_wp2_with fail
   go_roundw
   case rel => exact ⟨k + 1, by omega, by go_num, by rw [HNX.out]; exact HK7, HM7⟩
   case measure => simp [intOf]; omega
  ·
   obtain rfl : k = kk := by omega
   have c3 : wr.cell? ⟨m, 3, none⟩ = some (.slice la A.loose.length lc) := by
    obtain ⟨_, _, _, _, _, _, ⟨-, -, -, d3, -⟩, -⟩ := HK.out.cells
    rw [d3, HLV.out]
   clear hk
   by_cases hkn2 : k = A.loose.length
   ·
    have HE := Lib.hid (show A.crash keep part = ⟨A.room, -1, false, (A.loose.take k).foldl doF A.sure, (A.loose.take k).foldl doF A.sure, []⟩ by
     unfold Ad.crash
     rw [fin_all (kk := k) (by have := HKK.out; omega) hkn2, hkn2, List.take_length, HALL.out])
    obtain ⟨q, hq⟩ : ∃ q, q = A.loose.length := ⟨_, rfl⟩
    rw [← hq] at c3 hkn2
    obtain rfl := hkn2
    obtain ⟨_, _, _, sa, sn, sc, ⟨-, c1, c2, -, c4, c5⟩, dz, -, -⟩ := HK.out.cells
    have z1 := dz 1
    have z3 := dz 3
    have z4 := dz 4
    have z5 := dz 5
    obtain ⟨kf, mf⟩ := HK.out.crashed c2
    have HKf := Lib.hid kf
    have HMf := Lib.hid (HM.out.trans mf)
    clear kf mf dz
    clear HOKS HLS HK0 HALL HKK HF hlc hll hkn hkk
    go_wp2_with fail
    go_end0
    exact ⟨rfl, _, by rw [HE.out]; exact HKf.out, HMf.out⟩
   ·
    have hkl : k < A.loose.length := by omega
    obtain ⟨o, ho⟩ : ∃ o, A.loose[k]? = some o := ⟨_, List.getElem?_eq_getElem hkl⟩
    obtain ⟨la2, lc2, hlv2, hlc2, hcell⟩ := HK.out.lcell
    obtain ⟨e1, -, e3⟩ := Value.slice.inj (HLV.out.symm.trans hlv2)
    subst e1 e3
    obtain ⟨g, ra, rn, rc, rfl, hlcc, hrb⟩ := hcell k o ho
    have HLC := Lib.hid hlcc
    have HRB := Lib.hid hrb
    have HGO := Lib.hid (show OwnR m lv g from .inr (by rw [HLV.out]; rfl))
    have HGN := Lib.hid (show g ≠ m from fun e => HK.out.ne (by rw [← e, HLV.out]; rfl))
    have HGL := Lib.hid (show ∀ W : World, w1.heap.size ≤ W.heap.size → g < W.heap.size from fun W hW => Nat.lt_of_lt_of_le (HK0.out.ownLt HGO.out).2 hW)
    have HOK := Lib.hid (HOKS.out k o ho)
    have HEX := Lib.hid (show A.fin keep part = if o.kind = 1 then doF ((A.loose.take k).foldl doF A.sure) { o with p := o.p.take (min (max part 0) 1048576).toNat } else (A.loose.take k).foldl doF A.sure by
     unfold Ad.fin
     rw [show (min (max keep 0) (A.loose.length : Int)).toNat = k by have := HKK.out; omega, ho])
    have q0 := hlcc.1
    obtain ⟨n, hn⟩ : ∃ n, n = A.loose.length := ⟨_, rfl⟩
    rw [← hn] at c3 hkl
    have hix := run_chgs_idx wr g n lc k hkl
    clear ho hlv2 hlc2 hcell hlcc hrb HOKS HALL hkk hkn hkn2 hll hlc hn
    by_cases hk1 : o.kind = 1
    ·
     have HE := Lib.hid (show A.crash keep part = ⟨A.room, -1, false, doF ((A.loose.take k).foldl doF A.sure) { o with p := o.p.take (min (max part 0) 1048576).toNat }, doF ((A.loose.take k).foldl doF A.sure) { o with p := o.p.take (min (max part 0) 1048576).toNat }, []⟩ by
      unfold Ad.crash
      rw [HEX.out, if_pos hk1])
     have hkz : (o.kind : Int) = 1 := by omega
     have hlda := run_LC wr g k o ra rn rc HLC.out
     have q1 := HLC.out.2.1
     have q2 := HLC.out.2.2.1
     have q3 := HLC.out.2.2.2
     have HK1 := Lib.hid hk1
     clear HEX
     go_wp2_with fail
     obtain ⟨l, hl⟩ : ∃ l, l = (A.loose.take k).foldl doF A.sure := ⟨_, rfl⟩
     obtain ⟨j, hj⟩ : ∃ j, j = min part.toNat rn := ⟨_, rfl⟩
     have hln := HRB.out.rd.1
     have hjn : j ≤ rn := by omega
     have HJC := Lib.hid (show j ≤ rc from Nat.le_trans hjn HRB.out.le)
     obtain ⟨z, hz1, hz2⟩ := HOK.out.2 (by omega)
     obtain ⟨hz3, hz4⟩ := hz2 hk1
     obtain ⟨o', ho'⟩ : ∃ o' : DCh, o' = { o with p := o.p.take j } := ⟨_, rfl⟩
     have HLL := Lib.hid (show (A.sured l).sure.length ≤ 10000000 from by have h1 := length_fold (A.loose.take k) A.sure; rw [List.length_take, ← hl] at h1; have := HLS.out; show l.length ≤ _; omega)
     rw [← hl] at HK hz1
     have HE2 := Lib.hid (show A.crash keep part = ⟨A.room, -1, false, doF l o', doF l o', []⟩ by
      rw [HE.out, ← hl, ho', show o.p.take (min (max part 0) 1048576).toNat = o.p.take j from List.take_eq_take_iff.2 (by omega)])
     obtain ⟨w5, hw5⟩ : ∃ w5, w5 = World.drew (wr.alloc (.cells #[.int .i64 1, .string o.a, .string o.b, .slice ra rn rc] 94)) := ⟨_, rfl⟩
     have hb5 : Below wr.heap.size wr w5 := by rw [hw5]; exact ((Below.refl _ _).alloc (Nat.le_refl _) _).drew
     obtain ⟨R, hR⟩ : ∃ R, R = wr.heap.size := ⟨_, rfl⟩
     have hrow : w5.heap[R]? = some (.cells #[.int .i64 1, .string o.a, .string o.b, .slice ra rn rc] 94 (0, 0)) := by rw [hw5, hR]; exact heap_alloc_new wr _
     have hRm : R ≠ m := by have := HK.out.lt; omega
     obtain ⟨w7, hw7⟩ : ∃ w7, w7 = w5.setCells R 3 [.slice ra j rc] := ⟨_, rfl⟩
     have hb7 : Below wr.heap.size wr w7 := by rw [hw7]; exact hb5.setCell (p := ⟨R, 3, none⟩) (by show _ ≤ R; omega) _
     have hrow7 := row_set hrow (.slice ra j rc) (o := 3) (by show 3 < 4; omega)
     rw [← hw7] at hrow7
     have HK7 := Lib.hid (HK.out.below hb7)
     have HM7 := Lib.hid (HM.out.trans (MvR.ofBelow hb7))
     have HRB7 := Lib.hid (show RB (NR F m lv) w7 ra j rc o'.p from by rw [ho']; exact (HRB.out.below hb7).take j hjn)
     have HB7 := Lib.hid (show LC w7 R 0 o' ra j rc from by
      rw [ho']
      refine ⟨(cell_of_row w7 R 0 _ _ _ hrow7).trans ?_, (cell_of_row w7 R 1 _ _ _ hrow7).trans rfl, (cell_of_row w7 R 2 _ _ _ hrow7).trans rfl, (cell_of_row w7 R 3 _ _ _ hrow7).trans rfl⟩
      show some (Value.int .i64 1) = some (.int .i64 (o.kind : Int))
      rw [hkz])
     have HR7 := Lib.hid (show R < w7.heap.size from by
      rcases Nat.lt_or_ge R w7.heap.size with h9 | h9
      ·
       exact h9
      ·
       rw [Array.getElem?_eq_none h9] at hrow7; cases hrow7)
     have HRM := Lib.hid hRm
     have hc5 : w5.cell? ⟨R, 3, none⟩ = some (.slice ra rn rc) := (cell_of_row w5 R 3 _ _ _ hrow).trans rfl
     have HLD := Lib.hid (run_cell_b w5 ⟨R, 3, none⟩ _ _ _ hc5)
     have HTH5 := Lib.hid (show w5.there R 3 1 from fun i hi => by
      obtain rfl : i = 0 := by omega
      exact ⟨by rw [Nat.add_zero, hc5]; rfl, frozen_of_row w5 R 3 _ _ hrow⟩)
     have HCL := Lib.hid (rclamp_c part (rn : Int) w5)
     rw [clamp_eq, ← hj] at HCL
     have HOK3 := Lib.hid (show o'.kind ≤ 3 ∧ (o'.kind ≠ 0 → ∃ z, lookF (A.sured l).sure o'.a = some z ∧ (o'.kind = 1 → z.length + o'.p.length ≤ 1000000000)) from by
      rw [ho']
      exact ⟨HOK.out.1, fun _ => ⟨z, hz1, fun _ => by show z.length + (o.p.take j).length ≤ _; rw [List.length_take]; omega⟩⟩)
     clear hl hj hln hjn hz1 hz2 hz3 hz4 ho' hb5 hrow hRm hb7 hrow7 hc5 HK HM HRB HOK HE HLC HK0 HLS HKK HGL HGN HGO HLV hix hlda q0 q1 q2 q3 c3 hkl hkz hk1 HK1
     (try dsimp only [Act.put, sT, sZ, sS])
     refine anyH_begin (S := fun _ => True) (by kernel_rfl) ?_
     rw [← hw5, ← hR]
     clear hw5 hR
     refine aP 0 (d := 60) (op := .fieldAddr 94 (.tmp 7) 3) (.pointer (some ⟨R, 3, none⟩)) trivial ?_
     simp only [Act.put, sT, sZ, sS]
     refine aP 2 (d := 62) (op := .move (.tmp 2)) (.int .i64 part) trivial ?_
     simp only [Act.put, sT, sZ, sS]
     refine aP 3 (d := 63) (op := .fieldAddr 94 (.tmp 7) 3) (.pointer (some ⟨R, 3, none⟩)) trivial ?_
     simp only [Act.put, sT, sZ, sS]
     refine wpAnyH_all (rs := [1, 4]) (by kernel_rfl) (by simp) ?_
     intro k hk; simp only [List.mem_cons, List.not_mem_nil, or_false] at hk; rcases hk with hk | hk <;> subst hk
     ·
      refine op_atJ 1 (d := some 61) (op := .load 38 (.tmp 60)) (by rfl) ?_
      intro o4 hod4 hoo4
      refine wp_load_g 38 (.tmp 60) hoo4 (.pointer (some ⟨R, 3, none⟩)) (.slice ra rn rc) (by rfl) HLD.out ?_
      rw [hod4]
      clear hod4 hoo4
      simp only [Act.put, sT, sZ, sS]
      refine ⟨trivial, ?_⟩
      refine wpAnyH_all (rs := [4]) (by kernel_rfl) (by simp) ?_
      intro k hk; simp only [List.mem_cons, List.not_mem_nil, or_false] at hk; subst hk
      refine op_atJ 4 (d := some 64) (op := .load 38 (.tmp 63)) (by rfl) ?_
      intro o4 hod4 hoo4
      refine wp_load_g 38 (.tmp 63) hoo4 (.pointer (some ⟨R, 3, none⟩)) (.slice ra rn rc) (by rfl) HLD.out ?_
      rw [hod4]
      clear hod4 hoo4
      simp only [Act.put, sT, sZ, sS]
      refine ⟨trivial, ?_⟩
      refine aP 5 (d := 65) (op := .call { callee := .builtin .len, args := #[(.tmp 64)], argTypes := #[38] }) (.int .i64 (rn : Int)) trivial ?_
      simp only [Act.put, sT, sZ, sS]
      refine anyH_callG 6 (d := some 66) (f := 104) (xs := #[(.tmp 62), (.tmp 65)]) (ts := #[3, 3]) (gd := none) (vs := #[.int .i64 part, .int .i64 (rn : Int)]) (by kernel_rfl) (by rfl) wantedP (by go_simp) (by go_simp) (HCL.out) ?_
      rintro e6 w6 ⟨rfl, h6⟩
      subst w6
      refine ⟨_, rfl, trivial, fun _ => ?_⟩
      simp only [Act.put, sT, sZ, sS]
      refine anyH_pureG 7 (d := 67) (op := .slice 38 (.tmp 61) none (some (.tmp 66)) none) (gd := none) (.slice ra j rc) (by rfl) wantedP (by kernel_rfl) (by kernel_rfl) (by kernel_rfl) (fun _ _ _ h => h) (fun o1 ho W hW => exec_headD (x := .tmp 61) (y := .tmp 66) HJC.out (by rfl) (by rfl) o1 ho W) trivial ?_
      simp only [Act.put, sT, sZ, sS]
      refine aP 8 (d := 68) (op := .fieldAddr 94 (.tmp 7) 3) (.pointer (some ⟨R, 3, none⟩)) trivial ?_
      simp only [Act.put, sT, sZ, sS]
      refine wpAnyH_all (rs := [9]) (by kernel_rfl) (by simp) ?_
      intro k hk; simp only [List.mem_cons, List.not_mem_nil, or_false] at hk; subst hk
      refine op_atJ 9 (d := none) (op := .store 38 (.tmp 68) (.tmp 67)) (by rfl) ?_
      intro o7 hod7 hoo7
      refine wp_store_one 38 (.tmp 68) (.tmp 67) hoo7 R 3 (.slice ra j rc) (by rfl) (by rfl) HTH5.out (by kernel_rfl) (by rfl) (by rfl) ?_
      rw [hod7]
      clear hod7 hoo7
      simp only [Act.put, sT, sZ, sS]
      refine ⟨trivial, ?_⟩
      refine wpAnyH_done (by kernel_rfl) ?_ _
      rw [← hw7]
      clear hw7 HTH5 HLD HCL
      go_wp2_with fail
      (try dsimp only [Act.put, sT, sZ, sS])
      obtain ⟨w8, hw8⟩ : ∃ w8, w8 = World.drew w7 := ⟨_, rfl⟩
      have HK5 := Lib.hid (show RDK F B m lv (A.sured l) w8 from by rw [hw8]; exact HK7.out.below (Below.refl _ _).drew)
      have HM5 := Lib.hid (show MvR m lv lv w1 w8 from by rw [hw8]; exact HM7.out.trans (MvR.ofBelow (Below.refl _ _).drew))
      have HRB5 := Lib.hid (show RB (NR F m lv) w8 ra j rc o'.p from by rw [hw8]; exact HRB7.out.below (Below.refl _ _).drew)
      have HS := Lib.hid (show LC w8 R 0 o' ra j rc from by rw [hw8]; exact HB7.out)
      have HR5 := Lib.hid (show R < w8.heap.size from by rw [hw8]; exact HR7.out)
      obtain ⟨_, _, _, sa, sn, sc, ⟨-, -, d2, -, -, -⟩, -, -, hsure⟩ := HK5.out.cells
      have HLN5 := Lib.hid hsure.ln
      have HDO5 := Lib.hid (rdo_c (cap := sc) hsure (fun k hk => by rcases hk with hk | hk; exact Nat.lt_of_lt_of_le (HF.out k hk) HM5.out.size; exact (HK5.out.ownLt hk).2) o' ra j rc HRB5.out (by have h1 := HLN5.out; have h2 := HLL.out; omega) HOK3.out.1 HOK3.out.2)
      have HL2 := Lib.hid (run_cell_fl w8 ⟨m, 2, none⟩ _ _ _ d2)
      have HL4 := Lib.hid (show ∀ W : World, LC W R 0 o' ra j rc → (Instr.loadAt 94 (.pointer (some ⟨R, 0, none⟩))).run Tryz.prog W = .ok (.agg #[.int .i64 (o'.kind : Int), .string o'.a, .string o'.b, .slice ra j rc]) W from fun W hW => run_LC W R 0 o' ra j rc hW)
      refine anyH_begin (S := fun W => LC W R 0 o' ra j rc) (by kernel_rfl) ?_
      rw [← hw8]
      clear hw8 d2 hsure HK7 HM7 HRB7 HB7 HR7
      refine aP 0 (d := 69) (op := .move (.tmp 0)) (.pointer (some ⟨m, 0, none⟩)) HS.out ?_
      simp only [Act.put, sT, sZ, sS]
      refine aP 1 (d := 70) (op := .move (.tmp 0)) (.pointer (some ⟨m, 0, none⟩)) HS.out ?_
      simp only [Act.put, sT, sZ, sS]
      refine aP 2 (d := 71) (op := .nilCheck (.tmp 70)) (.pointer (some ⟨m, 0, none⟩)) HS.out ?_
      simp only [Act.put, sT, sZ, sS]
      refine aP 3 (d := 72) (op := .fieldAddr 84 (.tmp 71) 2) (.pointer (some ⟨m, 2, none⟩)) HS.out ?_
      simp only [Act.put, sT, sZ, sS]
      refine aL 5 (d := 74) (ty := 94) (x := (.tmp 7)) (p := .pointer (some ⟨R, 0, none⟩)) (.agg #[.int .i64 (o'.kind : Int), .string o'.a, .string o'.b, .slice ra j rc]) HL4.out HS.out ?_
      simp only [Act.put, sT, sZ, sS]
      refine wpAnyH_all (rs := [4]) (by kernel_rfl) (by simp) ?_
      intro k hk; simp only [List.mem_cons, List.not_mem_nil, or_false] at hk; subst hk
      refine op_atJ 4 (d := some 73) (op := .load 81 (.tmp 72)) (by rfl) ?_
      intro o4 hod4 hoo4
      refine wp_load_g 81 (.tmp 72) hoo4 (.pointer (some ⟨m, 2, none⟩)) (.slice sa sn sc) (by rfl) HL2.out ?_
      rw [hod4]
      clear hod4 hoo4
      simp only [Act.put, sT, sZ, sS]
      refine ⟨HS.out, ?_⟩
      refine anyH_callG 6 (d := some 75) (f := 86) (xs := #[(.tmp 73), (.tmp 74)]) (ts := #[81, 94]) (gd := none) (vs := #[.slice sa sn sc, .agg #[.int .i64 (o'.kind : Int), .string o'.a, .string o'.b, .slice ra j rc]]) (by kernel_rfl) (by rfl) wantedP (by go_simp) (by go_simp) (HDO5.out) ?_
      rintro e6 w6 ⟨ya, yl, yc, rfl, hrf6, hb6⟩
      have HK6 := Lib.hid (HK5.out.below hb6)
      have HM6 := Lib.hid (HM5.out.trans (MvR.ofBelow hb6))
      have HRF6 := Lib.hid hrf6
      have HS := Lib.hid (show LC w6 R 0 o' ra j rc from by obtain ⟨q0, q1, q2, q3⟩ := HS.out; exact ⟨(hb6.cell (p := ⟨R, 4 * 0, none⟩) HR5.out).trans q0, (hb6.cell (p := ⟨R, 4 * 0 + 1, none⟩) HR5.out).trans q1, (hb6.cell (p := ⟨R, 4 * 0 + 2, none⟩) HR5.out).trans q2, (hb6.cell (p := ⟨R, 4 * 0 + 3, none⟩) HR5.out).trans q3⟩)
      clear hb6 hrf6 HK5 HM5 HRB5 HDO5 HL2
      refine ⟨_, rfl, HS.out, fun _ => ?_⟩
      simp only [Act.put, sT, sZ, sS]
      refine aP 7 (d := 76) (op := .nilCheck (.tmp 69)) (.pointer (some ⟨m, 0, none⟩)) HS.out ?_
      simp only [Act.put, sT, sZ, sS]
      refine aP 8 (d := 77) (op := .fieldAddr 84 (.tmp 76) 2) (.pointer (some ⟨m, 2, none⟩)) HS.out ?_
      simp only [Act.put, sT, sZ, sS]
      obtain ⟨k7, m7⟩ := HK6.out.cellSet 2 (.slice ya yl yc) (A.sured (doF l o')) (na := none) (sa := none) (nn := 0) (nc := 0) (sn := 0) (sc := 0) (fun na nn nc sa sn sc _ h2 h3 => ⟨na, nn, nc, ya, yl, yc, rfl, h2, HRF6.out⟩) (by omega) rfl
      have HTH := Lib.hid (show w6.there m 2 1 from fun j hj => by
       obtain rfl : j = 0 := by omega
       obtain ⟨_, _, _, _, _, _, ⟨-, -, d2, -⟩, dz, -⟩ := HK6.out.cells
       exact ⟨by rw [Nat.add_zero, d2]; rfl, dz 2⟩)
      have HK9 := Lib.hid k7
      have HM9 := Lib.hid (HM6.out.trans m7)
      refine wpAnyH_all (rs := [9]) (by kernel_rfl) (by simp) ?_
      intro k hk; simp only [List.mem_cons, List.not_mem_nil, or_false] at hk; subst hk
      refine op_atJ 9 (d := none) (op := .store 81 (.tmp 77) (.tmp 75)) (by rfl) ?_
      intro o7 hod7 hoo7
      refine wp_store_one 81 (.tmp 77) (.tmp 75) hoo7 m 2 (.slice ya yl yc) (by rfl) (by rfl) HTH.out (by kernel_rfl) (by rfl) (by rfl) ?_
      rw [hod7]
      clear hod7 hoo7 k7 m7
      simp only [Act.put, sT, sZ, sS]
      have HS7 := Lib.hid (show LC (w6.setCells m 2 [.slice ya yl yc]) R 0 o' ra j rc from by
       obtain ⟨q0, q1, q2, q3⟩ := HS.out
       have q : ∀ i, (w6.setCells m 2 [.slice ya yl yc]).cell? ⟨R, i, none⟩ = w6.cell? ⟨R, i, none⟩ := fun i => World.cell?_of_block (one_heap HRM.out)
       exact ⟨(q _).trans q0, (q _).trans q1, (q _).trans q2, (q _).trans q3⟩)
      obtain ⟨w9, hw9⟩ : ∃ w9, w9 = w6.setCells m 2 [.slice ya yl yc] := ⟨_, rfl⟩
      have HK := Lib.hid (show RDK F B m lv (A.sured (doF l o')) w9 from by rw [hw9]; exact HK9.out)
      have HM := Lib.hid (show MvR m lv lv w1 w9 from by rw [hw9]; exact HM9.out)
      rw [← hw9] at HS7 ⊢
      clear hw9
      refine ⟨HS7.out, ?_⟩
      refine wpAnyH_done (by kernel_rfl) ?_ _
      clear HS HS7 HTH HK6 HM6 HRF6 HL4 HK9 HM9 HR5 HRM HLL HOK3 HJC HF
      obtain ⟨_, _, _, sa, sn, sc, ⟨-, c1, c2, c3, c4, c5⟩, dz, -, -⟩ := HK.out.cells
      have z1 := dz 1
      have z3 := dz 3
      have z4 := dz 4
      have z5 := dz 5
      obtain ⟨kf, mf⟩ := HK.out.crashed c2
      have HKf := Lib.hid kf
      have HMf := Lib.hid (HM.out.trans mf)
      clear kf mf dz
      go_wp2_with fail
      go_end0
      exact ⟨rfl, _, by rw [HE2.out]; exact HKf.out, HMf.out⟩
     ·
      refine op_atJ 4 (d := some 64) (op := .load 38 (.tmp 63)) (by rfl) ?_
      intro o4 hod4 hoo4
      refine wp_load_g 38 (.tmp 63) hoo4 (.pointer (some ⟨R, 3, none⟩)) (.slice ra rn rc) (by rfl) HLD.out ?_
      rw [hod4]
      clear hod4 hoo4
      simp only [Act.put, sT, sZ, sS]
      refine ⟨trivial, ?_⟩
      refine aP 5 (d := 65) (op := .call { callee := .builtin .len, args := #[(.tmp 64)], argTypes := #[38] }) (.int .i64 (rn : Int)) trivial ?_
      simp only [Act.put, sT, sZ, sS]
      refine wpAnyH_all (rs := [1, 6]) (by kernel_rfl) (by simp) ?_
      intro k hk; simp only [List.mem_cons, List.not_mem_nil, or_false] at hk; rcases hk with hk | hk <;> subst hk
      ·
       refine op_atJ 1 (d := some 61) (op := .load 38 (.tmp 60)) (by rfl) ?_
       intro o4 hod4 hoo4
       refine wp_load_g 38 (.tmp 60) hoo4 (.pointer (some ⟨R, 3, none⟩)) (.slice ra rn rc) (by rfl) HLD.out ?_
       rw [hod4]
       clear hod4 hoo4
       simp only [Act.put, sT, sZ, sS]
       refine ⟨trivial, ?_⟩
       refine anyH_callG 6 (d := some 66) (f := 104) (xs := #[(.tmp 62), (.tmp 65)]) (ts := #[3, 3]) (gd := none) (vs := #[.int .i64 part, .int .i64 (rn : Int)]) (by kernel_rfl) (by rfl) wantedP (by go_simp) (by go_simp) (HCL.out) ?_
       rintro e6 w6 ⟨rfl, h6⟩
       subst w6
       refine ⟨_, rfl, trivial, fun _ => ?_⟩
       simp only [Act.put, sT, sZ, sS]
       refine anyH_pureG 7 (d := 67) (op := .slice 38 (.tmp 61) none (some (.tmp 66)) none) (gd := none) (.slice ra j rc) (by rfl) wantedP (by kernel_rfl) (by kernel_rfl) (by kernel_rfl) (fun _ _ _ h => h) (fun o1 ho W hW => exec_headD (x := .tmp 61) (y := .tmp 66) HJC.out (by rfl) (by rfl) o1 ho W) trivial ?_
       simp only [Act.put, sT, sZ, sS]
       refine aP 8 (d := 68) (op := .fieldAddr 94 (.tmp 7) 3) (.pointer (some ⟨R, 3, none⟩)) trivial ?_
       simp only [Act.put, sT, sZ, sS]
       refine wpAnyH_all (rs := [9]) (by kernel_rfl) (by simp) ?_
       intro k hk; simp only [List.mem_cons, List.not_mem_nil, or_false] at hk; subst hk
       refine op_atJ 9 (d := none) (op := .store 38 (.tmp 68) (.tmp 67)) (by rfl) ?_
       intro o7 hod7 hoo7
       refine wp_store_one 38 (.tmp 68) (.tmp 67) hoo7 R 3 (.slice ra j rc) (by rfl) (by rfl) HTH5.out (by kernel_rfl) (by rfl) (by rfl) ?_
       rw [hod7]
       clear hod7 hoo7
       simp only [Act.put, sT, sZ, sS]
       refine ⟨trivial, ?_⟩
       refine wpAnyH_done (by kernel_rfl) ?_ _
       rw [← hw7]
       clear hw7 HTH5 HLD HCL
       go_wp2_with fail
       (try dsimp only [Act.put, sT, sZ, sS])
       obtain ⟨w8, hw8⟩ : ∃ w8, w8 = World.drew w7 := ⟨_, rfl⟩
       have HK5 := Lib.hid (show RDK F B m lv (A.sured l) w8 from by rw [hw8]; exact HK7.out.below (Below.refl _ _).drew)
       have HM5 := Lib.hid (show MvR m lv lv w1 w8 from by rw [hw8]; exact HM7.out.trans (MvR.ofBelow (Below.refl _ _).drew))
       have HRB5 := Lib.hid (show RB (NR F m lv) w8 ra j rc o'.p from by rw [hw8]; exact HRB7.out.below (Below.refl _ _).drew)
       have HS := Lib.hid (show LC w8 R 0 o' ra j rc from by rw [hw8]; exact HB7.out)
       have HR5 := Lib.hid (show R < w8.heap.size from by rw [hw8]; exact HR7.out)
       obtain ⟨_, _, _, sa, sn, sc, ⟨-, -, d2, -, -, -⟩, -, -, hsure⟩ := HK5.out.cells
       have HLN5 := Lib.hid hsure.ln
       have HDO5 := Lib.hid (rdo_c (cap := sc) hsure (fun k hk => by rcases hk with hk | hk; exact Nat.lt_of_lt_of_le (HF.out k hk) HM5.out.size; exact (HK5.out.ownLt hk).2) o' ra j rc HRB5.out (by have h1 := HLN5.out; have h2 := HLL.out; omega) HOK3.out.1 HOK3.out.2)
       have HL2 := Lib.hid (run_cell_fl w8 ⟨m, 2, none⟩ _ _ _ d2)
       have HL4 := Lib.hid (show ∀ W : World, LC W R 0 o' ra j rc → (Instr.loadAt 94 (.pointer (some ⟨R, 0, none⟩))).run Tryz.prog W = .ok (.agg #[.int .i64 (o'.kind : Int), .string o'.a, .string o'.b, .slice ra j rc]) W from fun W hW => run_LC W R 0 o' ra j rc hW)
       refine anyH_begin (S := fun W => LC W R 0 o' ra j rc) (by kernel_rfl) ?_
       rw [← hw8]
       clear hw8 d2 hsure HK7 HM7 HRB7 HB7 HR7
       refine aP 0 (d := 69) (op := .move (.tmp 0)) (.pointer (some ⟨m, 0, none⟩)) HS.out ?_
       simp only [Act.put, sT, sZ, sS]
       refine aP 1 (d := 70) (op := .move (.tmp 0)) (.pointer (some ⟨m, 0, none⟩)) HS.out ?_
       simp only [Act.put, sT, sZ, sS]
       refine aP 2 (d := 71) (op := .nilCheck (.tmp 70)) (.pointer (some ⟨m, 0, none⟩)) HS.out ?_
       simp only [Act.put, sT, sZ, sS]
       refine aP 3 (d := 72) (op := .fieldAddr 84 (.tmp 71) 2) (.pointer (some ⟨m, 2, none⟩)) HS.out ?_
       simp only [Act.put, sT, sZ, sS]
       refine aL 5 (d := 74) (ty := 94) (x := (.tmp 7)) (p := .pointer (some ⟨R, 0, none⟩)) (.agg #[.int .i64 (o'.kind : Int), .string o'.a, .string o'.b, .slice ra j rc]) HL4.out HS.out ?_
       simp only [Act.put, sT, sZ, sS]
       refine wpAnyH_all (rs := [4]) (by kernel_rfl) (by simp) ?_
       intro k hk; simp only [List.mem_cons, List.not_mem_nil, or_false] at hk; subst hk
       refine op_atJ 4 (d := some 73) (op := .load 81 (.tmp 72)) (by rfl) ?_
       intro o4 hod4 hoo4
       refine wp_load_g 81 (.tmp 72) hoo4 (.pointer (some ⟨m, 2, none⟩)) (.slice sa sn sc) (by rfl) HL2.out ?_
       rw [hod4]
       clear hod4 hoo4
       simp only [Act.put, sT, sZ, sS]
       refine ⟨HS.out, ?_⟩
       refine anyH_callG 6 (d := some 75) (f := 86) (xs := #[(.tmp 73), (.tmp 74)]) (ts := #[81, 94]) (gd := none) (vs := #[.slice sa sn sc, .agg #[.int .i64 (o'.kind : Int), .string o'.a, .string o'.b, .slice ra j rc]]) (by kernel_rfl) (by rfl) wantedP (by go_simp) (by go_simp) (HDO5.out) ?_
       rintro e6 w6 ⟨ya, yl, yc, rfl, hrf6, hb6⟩
       have HK6 := Lib.hid (HK5.out.below hb6)
       have HM6 := Lib.hid (HM5.out.trans (MvR.ofBelow hb6))
       have HRF6 := Lib.hid hrf6
       have HS := Lib.hid (show LC w6 R 0 o' ra j rc from by obtain ⟨q0, q1, q2, q3⟩ := HS.out; exact ⟨(hb6.cell (p := ⟨R, 4 * 0, none⟩) HR5.out).trans q0, (hb6.cell (p := ⟨R, 4 * 0 + 1, none⟩) HR5.out).trans q1, (hb6.cell (p := ⟨R, 4 * 0 + 2, none⟩) HR5.out).trans q2, (hb6.cell (p := ⟨R, 4 * 0 + 3, none⟩) HR5.out).trans q3⟩)
       clear hb6 hrf6 HK5 HM5 HRB5 HDO5 HL2
       refine ⟨_, rfl, HS.out, fun _ => ?_⟩
       simp only [Act.put, sT, sZ, sS]
       refine aP 7 (d := 76) (op := .nilCheck (.tmp 69)) (.pointer (some ⟨m, 0, none⟩)) HS.out ?_
       simp only [Act.put, sT, sZ, sS]
       refine aP 8 (d := 77) (op := .fieldAddr 84 (.tmp 76) 2) (.pointer (some ⟨m, 2, none⟩)) HS.out ?_
       simp only [Act.put, sT, sZ, sS]
       obtain ⟨k7, m7⟩ := HK6.out.cellSet 2 (.slice ya yl yc) (A.sured (doF l o')) (na := none) (sa := none) (nn := 0) (nc := 0) (sn := 0) (sc := 0) (fun na nn nc sa sn sc _ h2 h3 => ⟨na, nn, nc, ya, yl, yc, rfl, h2, HRF6.out⟩) (by omega) rfl
       have HTH := Lib.hid (show w6.there m 2 1 from fun j hj => by
        obtain rfl : j = 0 := by omega
        obtain ⟨_, _, _, _, _, _, ⟨-, -, d2, -⟩, dz, -⟩ := HK6.out.cells
        exact ⟨by rw [Nat.add_zero, d2]; rfl, dz 2⟩)
       have HK9 := Lib.hid k7
       have HM9 := Lib.hid (HM6.out.trans m7)
       refine wpAnyH_all (rs := [9]) (by kernel_rfl) (by simp) ?_
       intro k hk; simp only [List.mem_cons, List.not_mem_nil, or_false] at hk; subst hk
       refine op_atJ 9 (d := none) (op := .store 81 (.tmp 77) (.tmp 75)) (by rfl) ?_
       intro o7 hod7 hoo7
       refine wp_store_one 81 (.tmp 77) (.tmp 75) hoo7 m 2 (.slice ya yl yc) (by rfl) (by rfl) HTH.out (by kernel_rfl) (by rfl) (by rfl) ?_
       rw [hod7]
       clear hod7 hoo7 k7 m7
       simp only [Act.put, sT, sZ, sS]
       have HS7 := Lib.hid (show LC (w6.setCells m 2 [.slice ya yl yc]) R 0 o' ra j rc from by
        obtain ⟨q0, q1, q2, q3⟩ := HS.out
        have q : ∀ i, (w6.setCells m 2 [.slice ya yl yc]).cell? ⟨R, i, none⟩ = w6.cell? ⟨R, i, none⟩ := fun i => World.cell?_of_block (one_heap HRM.out)
        exact ⟨(q _).trans q0, (q _).trans q1, (q _).trans q2, (q _).trans q3⟩)
       obtain ⟨w9, hw9⟩ : ∃ w9, w9 = w6.setCells m 2 [.slice ya yl yc] := ⟨_, rfl⟩
       have HK := Lib.hid (show RDK F B m lv (A.sured (doF l o')) w9 from by rw [hw9]; exact HK9.out)
       have HM := Lib.hid (show MvR m lv lv w1 w9 from by rw [hw9]; exact HM9.out)
       rw [← hw9] at HS7 ⊢
       clear hw9
       refine ⟨HS7.out, ?_⟩
       refine wpAnyH_done (by kernel_rfl) ?_ _
       clear HS HS7 HTH HK6 HM6 HRF6 HL4 HK9 HM9 HR5 HRM HLL HOK3 HJC HF
       obtain ⟨_, _, _, sa, sn, sc, ⟨-, c1, c2, c3, c4, c5⟩, dz, -, -⟩ := HK.out.cells
       have z1 := dz 1
       have z3 := dz 3
       have z4 := dz 4
       have z5 := dz 5
       obtain ⟨kf, mf⟩ := HK.out.crashed c2
       have HKf := Lib.hid kf
       have HMf := Lib.hid (HM.out.trans mf)
       clear kf mf dz
       go_wp2_with fail
       go_end0
       exact ⟨rfl, _, by rw [HE2.out]; exact HKf.out, HMf.out⟩
      ·
       refine op_callC (d := some 66) (f := 104) (xs := #[(.tmp 62), (.tmp 65)]) (ts := #[3, 3]) (vs := #[.int .i64 part, .int .i64 (rn : Int)]) (by rfl) (by go_simp) (by go_simp) HCL.out ?_
       rintro e6 w6 ⟨rfl, h6⟩
       subst w6
       refine ⟨_, rfl, ?_⟩
       simp only [Act.put, sT, sZ, sS]
       refine ⟨trivial, ?_⟩
       refine wpAnyH_all (rs := [1]) (by kernel_rfl) (by simp) ?_
       intro k hk; simp only [List.mem_cons, List.not_mem_nil, or_false] at hk; subst hk
       refine op_atJ 1 (d := some 61) (op := .load 38 (.tmp 60)) (by rfl) ?_
       intro o4 hod4 hoo4
       refine wp_load_g 38 (.tmp 60) hoo4 (.pointer (some ⟨R, 3, none⟩)) (.slice ra rn rc) (by rfl) HLD.out ?_
       rw [hod4]
       clear hod4 hoo4
       simp only [Act.put, sT, sZ, sS]
       refine ⟨trivial, ?_⟩
       refine anyH_pureG 7 (d := 67) (op := .slice 38 (.tmp 61) none (some (.tmp 66)) none) (gd := none) (.slice ra j rc) (by rfl) wantedP (by kernel_rfl) (by kernel_rfl) (by kernel_rfl) (fun _ _ _ h => h) (fun o1 ho W hW => exec_headD (x := .tmp 61) (y := .tmp 66) HJC.out (by rfl) (by rfl) o1 ho W) trivial ?_
       simp only [Act.put, sT, sZ, sS]
       refine aP 8 (d := 68) (op := .fieldAddr 94 (.tmp 7) 3) (.pointer (some ⟨R, 3, none⟩)) trivial ?_
       simp only [Act.put, sT, sZ, sS]
       refine wpAnyH_all (rs := [9]) (by kernel_rfl) (by simp) ?_
       intro k hk; simp only [List.mem_cons, List.not_mem_nil, or_false] at hk; subst hk
       refine op_atJ 9 (d := none) (op := .store 38 (.tmp 68) (.tmp 67)) (by rfl) ?_
       intro o7 hod7 hoo7
       refine wp_store_one 38 (.tmp 68) (.tmp 67) hoo7 R 3 (.slice ra j rc) (by rfl) (by rfl) HTH5.out (by kernel_rfl) (by rfl) (by rfl) ?_
       rw [hod7]
       clear hod7 hoo7
       simp only [Act.put, sT, sZ, sS]
       refine ⟨trivial, ?_⟩
       refine wpAnyH_done (by kernel_rfl) ?_ _
       rw [← hw7]
       clear hw7 HTH5 HLD HCL
       go_wp2_with fail
       (try dsimp only [Act.put, sT, sZ, sS])
       obtain ⟨w8, hw8⟩ : ∃ w8, w8 = World.drew w7 := ⟨_, rfl⟩
       have HK5 := Lib.hid (show RDK F B m lv (A.sured l) w8 from by rw [hw8]; exact HK7.out.below (Below.refl _ _).drew)
       have HM5 := Lib.hid (show MvR m lv lv w1 w8 from by rw [hw8]; exact HM7.out.trans (MvR.ofBelow (Below.refl _ _).drew))
       have HRB5 := Lib.hid (show RB (NR F m lv) w8 ra j rc o'.p from by rw [hw8]; exact HRB7.out.below (Below.refl _ _).drew)
       have HS := Lib.hid (show LC w8 R 0 o' ra j rc from by rw [hw8]; exact HB7.out)
       have HR5 := Lib.hid (show R < w8.heap.size from by rw [hw8]; exact HR7.out)
       obtain ⟨_, _, _, sa, sn, sc, ⟨-, -, d2, -, -, -⟩, -, -, hsure⟩ := HK5.out.cells
       have HLN5 := Lib.hid hsure.ln
       have HDO5 := Lib.hid (rdo_c (cap := sc) hsure (fun k hk => by rcases hk with hk | hk; exact Nat.lt_of_lt_of_le (HF.out k hk) HM5.out.size; exact (HK5.out.ownLt hk).2) o' ra j rc HRB5.out (by have h1 := HLN5.out; have h2 := HLL.out; omega) HOK3.out.1 HOK3.out.2)
       have HL2 := Lib.hid (run_cell_fl w8 ⟨m, 2, none⟩ _ _ _ d2)
       have HL4 := Lib.hid (show ∀ W : World, LC W R 0 o' ra j rc → (Instr.loadAt 94 (.pointer (some ⟨R, 0, none⟩))).run Tryz.prog W = .ok (.agg #[.int .i64 (o'.kind : Int), .string o'.a, .string o'.b, .slice ra j rc]) W from fun W hW => run_LC W R 0 o' ra j rc hW)
       refine anyH_begin (S := fun W => LC W R 0 o' ra j rc) (by kernel_rfl) ?_
       rw [← hw8]
       clear hw8 d2 hsure HK7 HM7 HRB7 HB7 HR7
       refine aP 0 (d := 69) (op := .move (.tmp 0)) (.pointer (some ⟨m, 0, none⟩)) HS.out ?_
       simp only [Act.put, sT, sZ, sS]
       refine aP 1 (d := 70) (op := .move (.tmp 0)) (.pointer (some ⟨m, 0, none⟩)) HS.out ?_
       simp only [Act.put, sT, sZ, sS]
       refine aP 2 (d := 71) (op := .nilCheck (.tmp 70)) (.pointer (some ⟨m, 0, none⟩)) HS.out ?_
       simp only [Act.put, sT, sZ, sS]
       refine aP 3 (d := 72) (op := .fieldAddr 84 (.tmp 71) 2) (.pointer (some ⟨m, 2, none⟩)) HS.out ?_
       simp only [Act.put, sT, sZ, sS]
       refine aL 5 (d := 74) (ty := 94) (x := (.tmp 7)) (p := .pointer (some ⟨R, 0, none⟩)) (.agg #[.int .i64 (o'.kind : Int), .string o'.a, .string o'.b, .slice ra j rc]) HL4.out HS.out ?_
       simp only [Act.put, sT, sZ, sS]
       refine wpAnyH_all (rs := [4]) (by kernel_rfl) (by simp) ?_
       intro k hk; simp only [List.mem_cons, List.not_mem_nil, or_false] at hk; subst hk
       refine op_atJ 4 (d := some 73) (op := .load 81 (.tmp 72)) (by rfl) ?_
       intro o4 hod4 hoo4
       refine wp_load_g 81 (.tmp 72) hoo4 (.pointer (some ⟨m, 2, none⟩)) (.slice sa sn sc) (by rfl) HL2.out ?_
       rw [hod4]
       clear hod4 hoo4
       simp only [Act.put, sT, sZ, sS]
       refine ⟨HS.out, ?_⟩
       refine anyH_callG 6 (d := some 75) (f := 86) (xs := #[(.tmp 73), (.tmp 74)]) (ts := #[81, 94]) (gd := none) (vs := #[.slice sa sn sc, .agg #[.int .i64 (o'.kind : Int), .string o'.a, .string o'.b, .slice ra j rc]]) (by kernel_rfl) (by rfl) wantedP (by go_simp) (by go_simp) (HDO5.out) ?_
       rintro e6 w6 ⟨ya, yl, yc, rfl, hrf6, hb6⟩
       have HK6 := Lib.hid (HK5.out.below hb6)
       have HM6 := Lib.hid (HM5.out.trans (MvR.ofBelow hb6))
       have HRF6 := Lib.hid hrf6
       have HS := Lib.hid (show LC w6 R 0 o' ra j rc from by obtain ⟨q0, q1, q2, q3⟩ := HS.out; exact ⟨(hb6.cell (p := ⟨R, 4 * 0, none⟩) HR5.out).trans q0, (hb6.cell (p := ⟨R, 4 * 0 + 1, none⟩) HR5.out).trans q1, (hb6.cell (p := ⟨R, 4 * 0 + 2, none⟩) HR5.out).trans q2, (hb6.cell (p := ⟨R, 4 * 0 + 3, none⟩) HR5.out).trans q3⟩)
       clear hb6 hrf6 HK5 HM5 HRB5 HDO5 HL2
       refine ⟨_, rfl, HS.out, fun _ => ?_⟩
       simp only [Act.put, sT, sZ, sS]
       refine aP 7 (d := 76) (op := .nilCheck (.tmp 69)) (.pointer (some ⟨m, 0, none⟩)) HS.out ?_
       simp only [Act.put, sT, sZ, sS]
       refine aP 8 (d := 77) (op := .fieldAddr 84 (.tmp 76) 2) (.pointer (some ⟨m, 2, none⟩)) HS.out ?_
       simp only [Act.put, sT, sZ, sS]
       obtain ⟨k7, m7⟩ := HK6.out.cellSet 2 (.slice ya yl yc) (A.sured (doF l o')) (na := none) (sa := none) (nn := 0) (nc := 0) (sn := 0) (sc := 0) (fun na nn nc sa sn sc _ h2 h3 => ⟨na, nn, nc, ya, yl, yc, rfl, h2, HRF6.out⟩) (by omega) rfl
       have HTH := Lib.hid (show w6.there m 2 1 from fun j hj => by
        obtain rfl : j = 0 := by omega
        obtain ⟨_, _, _, _, _, _, ⟨-, -, d2, -⟩, dz, -⟩ := HK6.out.cells
        exact ⟨by rw [Nat.add_zero, d2]; rfl, dz 2⟩)
       have HK9 := Lib.hid k7
       have HM9 := Lib.hid (HM6.out.trans m7)
       refine wpAnyH_all (rs := [9]) (by kernel_rfl) (by simp) ?_
       intro k hk; simp only [List.mem_cons, List.not_mem_nil, or_false] at hk; subst hk
       refine op_atJ 9 (d := none) (op := .store 81 (.tmp 77) (.tmp 75)) (by rfl) ?_
       intro o7 hod7 hoo7
       refine wp_store_one 81 (.tmp 77) (.tmp 75) hoo7 m 2 (.slice ya yl yc) (by rfl) (by rfl) HTH.out (by kernel_rfl) (by rfl) (by rfl) ?_
       rw [hod7]
       clear hod7 hoo7 k7 m7
       simp only [Act.put, sT, sZ, sS]
       have HS7 := Lib.hid (show LC (w6.setCells m 2 [.slice ya yl yc]) R 0 o' ra j rc from by
        obtain ⟨q0, q1, q2, q3⟩ := HS.out
        have q : ∀ i, (w6.setCells m 2 [.slice ya yl yc]).cell? ⟨R, i, none⟩ = w6.cell? ⟨R, i, none⟩ := fun i => World.cell?_of_block (one_heap HRM.out)
        exact ⟨(q _).trans q0, (q _).trans q1, (q _).trans q2, (q _).trans q3⟩)
       obtain ⟨w9, hw9⟩ : ∃ w9, w9 = w6.setCells m 2 [.slice ya yl yc] := ⟨_, rfl⟩
       have HK := Lib.hid (show RDK F B m lv (A.sured (doF l o')) w9 from by rw [hw9]; exact HK9.out)
       have HM := Lib.hid (show MvR m lv lv w1 w9 from by rw [hw9]; exact HM9.out)
       rw [← hw9] at HS7 ⊢
       clear hw9
       refine ⟨HS7.out, ?_⟩
       refine wpAnyH_done (by kernel_rfl) ?_ _
       clear HS HS7 HTH HK6 HM6 HRF6 HL4 HK9 HM9 HR5 HRM HLL HOK3 HJC HF
       obtain ⟨_, _, _, sa, sn, sc, ⟨-, c1, c2, c3, c4, c5⟩, dz, -, -⟩ := HK.out.cells
       have z1 := dz 1
       have z3 := dz 3
       have z4 := dz 4
       have z5 := dz 5
       obtain ⟨kf, mf⟩ := HK.out.crashed c2
       have HKf := Lib.hid kf
       have HMf := Lib.hid (HM.out.trans mf)
       clear kf mf dz
       go_wp2_with fail
       go_end0
       exact ⟨rfl, _, by rw [HE2.out]; exact HKf.out, HMf.out⟩
    ·
     have HE := Lib.hid (show A.crash keep part = ⟨A.room, -1, false, (A.loose.take k).foldl doF A.sure, (A.loose.take k).foldl doF A.sure, []⟩ by
      unfold Ad.crash
      rw [HEX.out, if_neg hk1])
     have hkz : ¬ ((o.kind : Int) = 1) := by omega
     obtain ⟨_, _, _, sa, sn, sc, ⟨-, c1, c2, -, c4, c5⟩, dz, -, -⟩ := HK.out.cells
     have z1 := dz 1
     have z3 := dz 3
     have z4 := dz 4
     have z5 := dz 5
     obtain ⟨kf, mf⟩ := HK.out.crashed c2
     have HKf := Lib.hid kf
     have HMf := Lib.hid (HM.out.trans mf)
     clear kf mf dz
     clear hk1 HEX HLC HRB HGO HGL HOK HGN HKK HK0 HF HLS
     go_wp2_with fail
     trace_state
     go_end0
     exact ⟨rfl, _, by rw [HE.out]; exact HKf.out, HMf.out⟩
end Go.Proofs.YtihbgigledmliaaGreat

namespace Go.Proofs.YtihbgigledmliaaGreat
open Go.RowKit
set_option linter.unusedVariables false
/-- what is told of the document's disk alone -/
structure Gd (A : Ad) : Prop where
 srt : Srt A.now
 used : usedF A.now ≤ 67108864
 r0 : 0 ≤ A.room
 r1 : A.room ≤ 67108864
 fuse : A.fuse ≤ 9223372036854775807
 ok : ∀ k o, A.loose[k]? = some o → Okc 67108864 ((A.loose.take k).foldl doF A.sure) o
 all : A.loose.foldl doF A.sure = A.now
 nm : ∀ s z, lookF A.now s = some z → s.size ≤ 160
theorem RA.gd {B d N : Nat} {S : Dsk} {A : Ad} {w : World} (h : DK B d S w) (r : RA N S A) : Gd A := by
 refine ⟨r.chn.ab.srt, r.uR, r.r0, r.r1, by have := r.fuse; have := r.fb; omega, fun k o hk => ?_, ?_, fun s z hz => ?_⟩
 ·
  obtain ⟨h1, h2⟩ := Chn.all A.loose r.chn k o hk
  refine ⟨h1, fun h0 => ?_⟩
  obtain ⟨z, hz, h3⟩ := h2 h0
  refine ⟨z, hz, fun h4 => ?_⟩
  obtain ⟨h5, h6⟩ := h3 h4
  have := r.r0
  have := r.r1
  exact ⟨by omega, h6⟩
 ·
  rw [r.chn.fold, List.foldr_reverse]
 ·
  cases e : S.at s with
  | none => rw [r.none e] at hz; cases hz
  | some b => exact at_small h r s (by rw [e]; rfl)
/-- how many files and loose changes there may be -/
def Bnd (k : Nat) (A : Ad) : Prop := A.sure.length + A.loose.length ≤ k
theorem Gd.now {A : Ad} {k : Nat} (h : Gd A) (hb : Bnd k A) : A.now.length ≤ k := by
 rw [← h.all]
 exact Nat.le_trans (length_fold _ _) hb
theorem Bnd.sync {A : Ad} {k : Nat} (h : Bnd k A) (g : Gd A) : Bnd (k + 1) A.sync.1 := by
 have hn := g.now h
 unfold Bnd at h ⊢
 unfold Ad.sync
 split
 ·
  exact Nat.le_succ_of_le h
 ·
  split
  ·
   exact Nat.le_succ_of_le h
  ·
   show A.now.length + 0 ≤ k + 1
   omega
theorem Bnd.crash {A : Ad} {k : Nat} (h : Bnd k A) (g : Gd A) (x y : Int) : Bnd (k + 1) (A.crash x y) := by
 have hn := g.now h
 unfold Bnd at h ⊢
 show (A.fin x y).length + 0 ≤ k + 1
 unfold Ad.fin
 split
 ·
  omega
 ·
  rename_i o ho
  have hl := (List.getElem?_eq_some_iff.1 ho).1
  have h1 := length_fold (A.loose.take (min (max x 0) (A.loose.length : Int)).toNat) A.sure
  rw [List.length_take] at h1
  split
  ·
   have h2 := length_doF ((A.loose.take (min (max x 0) (A.loose.length : Int)).toNat).foldl doF A.sure) { o with p := o.p.take (min (max y 0) 1048576).toNat }
   omega
  ·
   omega
theorem Bnd.fused {A : Ad} {k : Nat} (h : Bnd k A) (n : Int) : Bnd k (A.fused n).1 := by
 unfold Bnd at h ⊢
 unfold Ad.fused
 split <;> exact h
theorem Bnd.mono {A : Ad} {k j : Nat} (h : Bnd k A) (hk : k ≤ j) : Bnd j A := Nat.le_trans h hk
/-- both disks; X: blocks that others may write -/
structure Rel (X : Nat → Prop) (B d m N : Nat) (A1 A2 : Ad) (w : World) : Prop where
 ex : ∃ S lv, DK B d S w ∧ RA N S A1 ∧ RDK (fun j => S.own d j ∨ X j) B m lv A2 w ∧ ∀ j, X j → ¬ S.own d j
 lt : ∀ j, X j → B ≤ j ∧ j < w.heap.size
theorem Rel.gd {X : Nat → Prop} {B d m N : Nat} {A1 A2 : Ad} {w : World} (h : Rel X B d m N A1 A2 w) : Gd A1 := by
 obtain ⟨S, lv, h1, h2, _⟩ := h.ex
 exact h2.gd h1
theorem Rel.mono {X : Nat → Prop} {B d m N M : Nat} {A1 A2 : Ad} {w : World} (h : Rel X B d m N A1 A2 w) (hM : N ≤ M) : Rel X B d m M A1 A2 w := by
 obtain ⟨S, lv, h1, h2, h3, h4⟩ := h.ex
 exact ⟨⟨S, lv, h1, h2.mono hM, h3, h4⟩, h.lt⟩
theorem Rel.base {X : Nat → Prop} {B d m N : Nat} {A1 A2 : Ad} {w : World} (h : Rel X B d m N A1 A2 w) : B ≤ d ∧ d < w.heap.size ∧ B ≤ m ∧ m < w.heap.size := by
 obtain ⟨S, lv, h1, h2, h3, h4⟩ := h.ex
 exact ⟨h1.base, h1.lt, h3.base, h3.lt⟩
/-- others write; other blocks are theirs -/
theorem Rel.more {X Y : Nat → Prop} {B d m N : Nat} {A1 A2 : Ad} {w w' : World} (h : Rel X B d m N A1 A2 w) (hb : Sta X w w') (hY : ∀ j, Y j → X j ∨ w.heap.size ≤ j) (hlt : ∀ j, Y j → B ≤ j ∧ j < w'.heap.size) : Rel Y B d m N A1 A2 w' := by
 obtain ⟨S, lv, h1, h2, h3, h4⟩ := h.ex
 refine ⟨⟨S, lv, h1.keep fun k hk => hb.blk k (h1.ownLt hk).2 fun hx => h4 k hx hk, h2, h3.sta ⟨hb.size, fun k hk hn => hb.blk k hk fun hx => hn (.inr hx)⟩ (fun j hj => ?_), fun j hj ho => ?_⟩, hlt⟩
 ·
  rcases hj with hj | hj
  ·
   exact .inl (.inl hj)
  ·
   rcases hY j hj with h5 | h5
   ·
    exact .inl (.inr h5)
   ·
    exact .inr h5
 ·
  rcases hY j hj with h5 | h5
  ·
   exact h4 j h5 ho
  ·
   have := (h1.ownLt ho).2; omega
theorem Rel.below {X : Nat → Prop} {B d m N : Nat} {A1 A2 : Ad} {w w' : World} (h : Rel X B d m N A1 A2 w) (hb : Below w.heap.size w w') : Rel X B d m N A1 A2 w' := h.more (Sta.ofBelow hb) (fun _ hj => .inl hj) fun j hj => ⟨(h.lt j hj).1, Nat.lt_of_lt_of_le (h.lt j hj).2 hb.size⟩
/-- what others may write, a call of a disk leaves as it was -/
def KpX (X : Nat → Prop) (w w' : World) : Prop := ∀ j, X j → w'.heap[j]? = w.heap[j]?
theorem KpX.refl (X : Nat → Prop) (w : World) : KpX X w w := fun _ _ => rfl
theorem KpX.trans {X : Nat → Prop} {w w1 w2 : World} (h : KpX X w w1) (k : KpX X w1 w2) : KpX X w w2 := fun j hj => (k j hj).trans (h j hj)
theorem KpX.less {X Y : Nat → Prop} {w w' : World} (h : KpX X w w') (hy : ∀ j, Y j → X j) : KpX Y w w' := fun j hj => h j (hy j hj)
theorem KpX.ofBelow {X : Nat → Prop} {w w' : World} (hb : Below w.heap.size w w') (hx : ∀ j, X j → j < w.heap.size) : KpX X w w' := fun j hj => hb.block j (hx j hj)
/-- a call of the program -/
theorem Rel.prog {X : Nat → Prop} {B d m N N' : Nat} {A1 A1' A2 : Ad} {w : World} (h : Rel X B d m N A1 A2 w) {f : FuncId} {xs : Array Value} {v : Value}
  (hc : ∀ S, DK B d S w → RA N S A1 → (∀ j, X j → ¬ S.own d j) → Calls Tryz.prog f xs w fun e w' => e = .returned v ∧ Did B d N' S w A1' w') :
  Calls Tryz.prog f xs w fun e w' => e = .returned v ∧ Rel X B d m N' A1' A2 w' ∧ Below B w w' ∧ KpX X w w' := by
 obtain ⟨S, lv, h1, h2, h3, h4⟩ := h.ex
 refine (hc S h1 h2 h4).mono ?_
 rintro e w' ⟨rfl, S', k1, k2, k3⟩
 refine ⟨rfl, ⟨⟨S', lv, k1, k2, h3.sta ⟨k3.size, fun k hk hn => k3.block k hk fun ho => hn (.inl ho)⟩ (fun j hj => ?_), fun j hj ho => ?_⟩, fun j hj => ⟨(h.lt j hj).1, Nat.lt_of_lt_of_le (h.lt j hj).2 k3.size⟩⟩, k3.below h1, fun j hj => k3.block j (h.lt j hj).2 (h4 j hj)⟩
 ·
  rcases hj with hj | hj
  ·
   rcases k3.own j hj with h5 | h5
   ·
    exact .inl (.inl h5)
   ·
    exact .inr h5
  ·
   exact .inl (.inr hj)
 ·
  rcases k3.own j ho with h5 | h5
  ·
   exact h4 j hj h5
  ·
   have := (h.lt j hj).2; omega
/-- a call of the document's -/
theorem Rel.doc {X : Nat → Prop} {B d m N : Nat} {A1 A2 A2' : Ad} {w : World} (h : Rel X B d m N A1 A2 w) {f : FuncId} {xs : Array Value} {v : Value}
  (hc : ∀ (F : Nat → Prop) lv, RDK F B m lv A2 w → (∀ j, F j → j < w.heap.size) → (∀ j, F j → B ≤ j) → Calls Tryz.prog f xs w fun e w' => e = .returned v ∧ ∃ lv', RDK F B m lv' A2' w' ∧ MvR m lv lv' w w') :
  Calls Tryz.prog f xs w fun e w' => e = .returned v ∧ Rel X B d m N A1 A2' w' ∧ Below B w w' ∧ KpX X w w' := by
 obtain ⟨S, lv, h1, h2, h3, h4⟩ := h.ex
 refine (hc _ lv h3 (fun j hj => ?_) (fun j hj => ?_)).mono ?_
 ·
  rcases hj with hj | hj
  ·
   exact (h1.ownLt hj).2
  ·
   exact (h.lt j hj).2
 ·
  rcases hj with hj | hj
  ·
   exact (h1.ownLt hj).1
  ·
   exact (h.lt j hj).1
 ·
  rintro e w' ⟨rfl, lv', k1, k2⟩
  exact ⟨rfl, ⟨⟨S, lv', h1.sta (fun k hk ho => h3.noF k hk (.inl ho)) k2, h2, k1, h4⟩, fun j hj => ⟨(h.lt j hj).1, Nat.lt_of_lt_of_le (h.lt j hj).2 k2.size⟩⟩, k2.below h3, fun j hj => k2.block j (h.lt j hj).2 fun ho => h3.noF j ho (.inr hj)⟩
/-- .. or a store -/
theorem Rel.docSet {X : Nat → Prop} {B d m N : Nat} {A1 A2 A2' : Ad} {w w' : World} (h : Rel X B d m N A1 A2 w)
  (hc : ∀ (F : Nat → Prop) lv, RDK F B m lv A2 w → RDK F B m lv A2' w' ∧ MvR m lv lv w w') : Rel X B d m N A1 A2' w' ∧ Below B w w' ∧ KpX X w w' := by
 obtain ⟨S, lv, h1, h2, h3, h4⟩ := h.ex
 obtain ⟨k1, k2⟩ := hc _ lv h3
 exact ⟨⟨⟨S, lv, h1.sta (fun k hk ho => h3.noF k hk (.inl ho)) k2, h2, k1, h4⟩, fun j hj => ⟨(h.lt j hj).1, Nat.lt_of_lt_of_le (h.lt j hj).2 k2.size⟩⟩, k2.below h3, fun j hj => k2.block j (h.lt j hj).2 fun ho => h3.noF j ho (.inr hj)⟩
theorem Rel.sync {X : Nat → Prop} {B d m N : Nat} {A1 A2 : Ad} {w : World} (h : Rel X B d m N A1 A2 w) (g : Gd A2) :
  Calls Tryz.prog 14 #[.pointer (some ⟨m, 0, none⟩)] w fun e w' => e = .returned (.int .i64 A2.sync.2) ∧ Rel X B d m N A1 A2.sync.1 w' ∧ Below B w w' ∧ KpX X w w' :=
 h.doc fun F lv hr hF hFB => rsync_c hr g.fuse
theorem Rel.crash {X : Nat → Prop} {B d m N k : Nat} {A1 A2 : Ad} {w : World} (h : Rel X B d m N A1 A2 w) (g : Gd A2) (hb : Bnd k A2) (hk : k ≤ 1000000) (x y : Int) :
  Calls Tryz.prog 53 #[.pointer (some ⟨m, 0, none⟩), .int .i64 x, .int .i64 y] w fun e w' => e = .returned (.tuple #[]) ∧ Rel X B d m N A1 (A2.crash x y) w' ∧ Below B w w' ∧ KpX X w w' :=
 h.doc fun F lv hr hF hFB => rcrash_c hr hF x y g.ok g.all (by unfold Bnd at hb; omega)
/-- both disks as one -/
structure Two (X : Nat → Prop) (B d m k : Nat) (A : Ad) (w : World) : Prop where
 rel : Rel X B d m (3 * k) A A w
 bnd : Bnd k A
theorem Two.gd {X : Nat → Prop} {B d m k : Nat} {A : Ad} {w : World} (h : Two X B d m k A w) : Gd A := h.rel.gd
end Go.Proofs.YtihbgigledmliaaGreat

namespace Go.Proofs.YtihbgigledmliaaGreat
open Go.RowKit
set_option linter.unusedVariables false
/-- a step: a function, what is bound to it, what it has captured -/
structure Stp where
 f : FuncId
 A : Array Value
 C : Array Value
def Stp.val (s : Stp) : Value := .func (.func s.f) s.A s.C
end Go.Proofs.YtihbgigledmliaaGreat

namespace Go.Proofs.YtihbgigledmliaaGreat
open Go.RowKit
set_option linter.unusedVariables false
/-- what others may write, a call of a disk leaves as it was -/
def KpD (X : Nat → Prop) (w w' : World) : Prop := ∀ j, X j → w'.heap[j]? = w.heap[j]?
theorem KpD.refl (X : Nat → Prop) (w : World) : KpD X w w := fun _ _ => rfl
theorem KpD.trans {X : Nat → Prop} {w w1 w2 : World} (h : KpD X w w1) (k : KpD X w1 w2) : KpD X w w2 := fun j hj => (k j hj).trans (h j hj)
theorem KpD.ofBelow {X : Nat → Prop} {w w' : World} (hb : Below w.heap.size w w') (hx : ∀ j, X j → j < w.heap.size) : KpD X w w' := fun j hj => hb.block j (hx j hj)
/-- a disk; X: blocks that are others' -/
structure Dx (X : Nat → Prop) (B d N : Nat) (A : Ad) (w : World) : Prop where
 ex : ∃ S, DK B d S w ∧ RA N S A ∧ ∀ j, X j → ¬ S.own d j
 lt : ∀ j, X j → j < w.heap.size
theorem Dx.mono {X : Nat → Prop} {B d N M : Nat} {A : Ad} {w : World} (h : Dx X B d N A w) (hM : N ≤ M) : Dx X B d M A w := by
 obtain ⟨S, h1, h2, h3⟩ := h.ex
 exact ⟨⟨S, h1, h2.mono hM, h3⟩, h.lt⟩
theorem Dx.base {X : Nat → Prop} {B d N : Nat} {A : Ad} {w : World} (h : Dx X B d N A w) : B ≤ d ∧ d < w.heap.size := by
 obtain ⟨S, h1, h2, h3⟩ := h.ex
 exact ⟨h1.base, h1.lt⟩
/-- others write; other blocks are theirs -/
theorem Dx.more {X Y : Nat → Prop} {B d N : Nat} {A : Ad} {w w' : World} (h : Dx X B d N A w) (hz : w.heap.size ≤ w'.heap.size) (hb : ∀ k, k < w.heap.size → ¬ X k → w'.heap[k]? = w.heap[k]?) (hY : ∀ j, Y j → X j ∨ w.heap.size ≤ j) (hlt : ∀ j, Y j → j < w'.heap.size) : Dx Y B d N A w' := by
 obtain ⟨S, h1, h2, h3⟩ := h.ex
 refine ⟨⟨S, h1.keep fun k hk => hb k (h1.ownLt hk).2 fun hx => h3 k hx hk, h2, fun j hj ho => ?_⟩, hlt⟩
 rcases hY j hj with h5 | h5
 ·
  exact h3 j h5 ho
 ·
  have := (h1.ownLt ho).2; omega
theorem Dx.below {X : Nat → Prop} {B d N : Nat} {A : Ad} {w w' : World} (h : Dx X B d N A w) (hb : Below w.heap.size w w') : Dx X B d N A w' := h.more hb.size (fun k hk _ => hb.block k hk) (fun _ hj => .inl hj) fun j hj => Nat.lt_of_lt_of_le (h.lt j hj) hb.size
theorem Dx.belowY {X Y : Nat → Prop} {B d N : Nat} {A : Ad} {w w' : World} (h : Dx X B d N A w) (hb : Below w.heap.size w w') (hY : ∀ j, Y j → X j ∨ w.heap.size ≤ j) (hlt : ∀ j, Y j → j < w'.heap.size) : Dx Y B d N A w' := h.more hb.size (fun k hk _ => hb.block k hk) hY hlt
theorem Dx.less {X Y : Nat → Prop} {B d N : Nat} {A : Ad} {w : World} (h : Dx X B d N A w) (hY : ∀ j, Y j → X j) : Dx Y B d N A w := h.more (Nat.le_refl _) (fun _ _ _ => rfl) (fun j hj => .inl (hY j hj)) fun j hj => h.lt j (hY j hj)
/-- what a call of a disk leaves -/
def DxR (X : Nat → Prop) (B d N : Nat) (w : World) (r : Ad × Int) (e : Ending) (w' : World) : Prop := e = .returned (.int .i64 r.2) ∧ Dx X B d N r.1 w' ∧ Below B w w' ∧ KpD X w w'
theorem Dx.call {X : Nat → Prop} {B d N N' : Nat} {A : Ad} {r : Ad × Int} {w : World} (h : Dx X B d N A w) {f : FuncId} {xs : Array Value}
  (hc : ∀ S, DK B d S w → RA N S A → (∀ j, X j → ¬ S.own d j) → Calls Tryz.prog f xs w fun e w' => e = .returned (.int .i64 r.2) ∧ Did B d N' S w r.1 w') :
  Calls Tryz.prog f xs w (DxR X B d N' w r) := by
 obtain ⟨S, h1, h2, h4⟩ := h.ex
 refine (hc S h1 h2 h4).mono ?_
 rintro e w' ⟨rfl, S', k1, k2, k3⟩
 refine ⟨rfl, ⟨⟨S', k1, k2, fun j hj ho => ?_⟩, fun j hj => Nat.lt_of_lt_of_le (h.lt j hj) k3.size⟩, k3.below h1, fun j hj => k3.block j (h.lt j hj) (h4 j hj)⟩
 rcases k3.own j ho with h5 | h5
 ·
  exact h4 j hj h5
 ·
  have := h.lt j hj; omega
theorem Dx.create {X : Nat → Prop} {B d N : Nat} {A : Ad} {w : World} (h : Dx X B d N A w) (s : ByteArray) (hs : s.size ≤ maxLen) (hN : N < 1000000000) : Calls Tryz.prog 50 #[.pointer (some ⟨d, 0, none⟩), .string s] w (DxR X B d (N + 3) w (A.step ⟨0, s, ⟨#[]⟩, []⟩)) := h.call fun S h1 h2 _ => acreate h1 h2 s hs hN
theorem Dx.remove {X : Nat → Prop} {B d N : Nat} {A : Ad} {w : World} (h : Dx X B d N A w) (s : ByteArray) (hs : s.size ≤ maxLen) (hN : N < 1000000000) : Calls Tryz.prog 51 #[.pointer (some ⟨d, 0, none⟩), .string s] w (DxR X B d (N + 3) w (A.step ⟨2, s, ⟨#[]⟩, []⟩)) := h.call fun S h1 h2 _ => aremove h1 h2 s hs hN
theorem Dx.rename {X : Nat → Prop} {B d N : Nat} {A : Ad} {w : World} (h : Dx X B d N A w) (s t : ByteArray) (hs : s.size ≤ maxLen) (ht : t.size ≤ maxLen) (hN : N < 1000000000) : Calls Tryz.prog 52 #[.pointer (some ⟨d, 0, none⟩), .string s, .string t] w (DxR X B d (N + 3) w (A.step ⟨3, s, t, []⟩)) := h.call fun S h1 h2 _ => arename h1 h2 s t hs ht hN
theorem Dx.sync {X : Nat → Prop} {B d N : Nat} {A : Ad} {w : World} (h : Dx X B d N A w) : Calls Tryz.prog 47 #[.pointer (some ⟨d, 0, none⟩)] w (DxR X B d (N + 3) w A.sync) := (h.call (N' := N) fun S h1 h2 _ => async h1 h2).mono fun e w' ⟨h1, h2, h3⟩ => ⟨h1, h2.mono (by omega), h3⟩
theorem Dx.append {X : Nat → Prop} {B d N : Nat} {A : Ad} {w : World} (h : Dx X B d N A w) (s : ByteArray) (hs : s.size ≤ maxLen) (pa : Option Addr) (n c : Nat) (ps : List Nat) (hr : Rd w pa n ps) (hno : ∀ b o s, pa = some ⟨b, o, s⟩ → n ≠ 0 → b < B ∨ X b) (hnil : pa = none → c = 0) (hN : N < 1000000000) : Calls Tryz.prog 44 #[.pointer (some ⟨d, 0, none⟩), .string s, .slice pa n c] w (DxR X B d (N + 3) w (A.step ⟨1, s, ⟨#[]⟩, ps⟩)) := h.call fun S h1 h2 h4 => aappend h1 h2 s hs pa n c ps ⟨hr, fun b o sp e hn ho => by
  rcases hno b o sp e hn with h5 | h5
  ·
   have := (h1.ownLt ho).1; omega
  ·
   exact h4 b h5 ho, hnil⟩ hN
/-- steps up to the first one that has an error -/
def runA : List (Ad → Ad × Int) → Ad → Ad × Int
 | [], A => (A, 0)
 | f :: fs, A => if (f A).2 ≠ 0 then f A else runA fs (f A).1
theorem runA_app : ∀ (l m : List (Ad → Ad × Int)) (A A1 : Ad), runA l A = (A1, 0) → runA (l ++ m) A = runA m A1
 | [], m, A, A1, h => by cases h; rfl
 | f :: l, m, A, A1, h => by
  have e1 : runA (f :: l) A = if (f A).2 ≠ 0 then f A else runA l (f A).1 := rfl
  have e2 : runA (f :: l ++ m) A = if (f A).2 ≠ 0 then f A else runA (l ++ m) (f A).1 := rfl
  rw [e1] at h
  rw [e2]
  by_cases h0 : (f A).2 ≠ 0
  ·
   rw [if_pos h0] at h
   rw [h] at h0
   exact absurd rfl h0
  ·
   rw [if_neg h0] at h ⊢
   exact runA_app l m _ A1 h
theorem runA_at {fs : List (Ad → Ad × Int)} {i : Nat} {f : Ad → Ad × Int} (hf : fs[i]? = some f) {A A1 : Ad} (h : runA (fs.take i) A = (A1, 0)) : ((f A1).2 = 0 → runA (fs.take (i + 1)) A = ((f A1).1, 0)) ∧ ((f A1).2 ≠ 0 → runA fs A = f A1) := by
 refine ⟨fun h0 => ?_, fun h0 => ?_⟩
 ·
  rw [List.take_add_one, hf, runA_app _ _ _ _ h]
  show (if (f A1).2 ≠ 0 then f A1 else ((f A1).1, 0)) = _
  rw [if_neg (by rw [h0]; exact fun h => h rfl)]
 ·
  have hs : fs = fs.take i ++ f :: fs.drop (i + 1) := by
   have hi := (List.getElem?_eq_some_iff.1 hf)
   conv => lhs; rw [← List.take_append_drop i fs]
   rw [List.drop_eq_getElem_cons hi.1, hi.2]
  rw [hs, runA_app _ _ _ _ h]
  show (if (f A1).2 ≠ 0 then f A1 else _) = _
  rw [if_pos h0]
end Go.Proofs.YtihbgigledmliaaGreat

namespace Go.Proofs.YtihbgigledmliaaGreat
open Go.RowKit
set_option linter.unusedVariables false
theorem srt_do {l : Fls} (c : DCh) (h : Srt l) (h0 : c.kind = 0 → lookF l c.a = none) : Srt (doF l c) := by
 unfold doF
 split
 ·
  rename_i k
  exact srt_with h (lookF_none (h0 k))
 ·
  split
  ·
   exact srt_with (srt_without h) (lookF_none (by show lookF (withoutF l c.a) c.a = none; rw [look_without, if_pos rfl]))
  ·
   split
   ·
    exact srt_without h
   ·
    exact srt_with (srt_without (srt_without h)) (lookF_none (by show lookF (withoutF (withoutF l c.a) c.b) c.b = none; rw [look_without, if_pos rfl]))
theorem used_do {l : Fls} (c : DCh) (h : Srt l) : usedF (doF l c) ≤ usedF l + (if c.kind = 1 then c.p.length else 0) := by
 unfold doF
 have h1 := used_without (n := c.a) h
 split
 ·
  rw [used_with]
  show usedF l + 0 ≤ _
  omega
 ·
  split
  ·
   rw [used_with]
   simp only [List.length_append]
   omega
  ·
   split
   ·
    omega
   ·
    rw [used_with]
    have h2 := used_without (n := c.b) (srt_without (n := c.a) h)
    simp only
    omega
/-- what a step of the document's disk needs -/
structure Gs (A : Ad) : Prop where
 srt : Srt A.now
 used : usedF A.now ≤ 67108864
 r0 : 0 ≤ A.room
 r1 : A.room ≤ 67108864
 fuse : A.fuse ≤ 9223372036854775807
theorem Gd.gs {A : Ad} (h : Gd A) : Gs A := ⟨h.srt, h.used, h.r0, h.r1, h.fuse⟩
theorem Gs.off {A : Ad} (h : Gs A) : Gs A.off := ⟨h.srt, h.used, h.r0, h.r1, h.fuse⟩
theorem fuse_spent {A : Ad} {M : Int} (h : A.fuse ≤ M) : A.spent.fuse ≤ M := by
 show (if 0 < A.fuse then A.fuse - 1 else A.fuse) ≤ M
 split <;> omega
theorem may_zeroP {A : Ad} {c : DCh} (h : A.may c = 0) : (c.kind = 0 → lookF A.now c.a = none) ∧ (c.kind = 1 → (usedF A.now : Int) + (c.p.length : Int) ≤ A.room) := by
 unfold Ad.may at h
 refine ⟨fun k => ?_, fun k => ?_⟩
 ·
  rw [if_pos k] at h
  cases e : lookF A.now c.a with
  | none => rfl
  | some z =>
   rw [e] at h
   by_cases h1 : isNm c.a = false
   ·
    rw [if_pos h1] at h; omega
   ·
    rw [if_neg h1] at h; simp at h
 ·
  rw [if_neg (by omega)] at h
  by_cases h1 : (lookF A.now c.a).isNone
  ·
   rw [if_pos h1] at h; omega
  ·
   rw [if_neg h1, if_pos k] at h
   by_cases h2 : 1048576 < c.p.length
   ·
    rw [if_pos h2] at h; omega
   ·
    rw [if_neg h2] at h
    by_cases h3 : A.room - (usedF A.now : Int) < (c.p.length : Int)
    ·
     rw [if_pos h3] at h; omega
    ·
     omega
theorem used_may {A : Ad} {c : DCh} (hs : Srt A.now) (hu : (usedF A.now : Int) ≤ A.room) (h : A.may c = 0) : (usedF (doF A.now c) : Int) ≤ A.room := by
 have h1 := used_do c hs
 obtain ⟨_, h2⟩ := may_zeroP h
 by_cases k : c.kind = 1
 ·
  rw [if_pos k] at h1
  have := h2 k
  omega
 ·
  rw [if_neg k] at h1
  omega
theorem Gs.step {A : Ad} (h : Gs A) (c : DCh) : Gs (A.step c).1 := by
 unfold Ad.step
 split
 ·
  exact h
 ·
  split
  ·
   exact h
  ·
   rename_i hm
   have hm0 : A.may c = 0 := by omega
   obtain ⟨h1, h2⟩ := may_zeroP hm0
   split
   ·
    exact h.off
   ·
    refine ⟨srt_do c h.srt h1, ?_, h.r0, h.r1, fuse_spent h.fuse⟩
    show usedF (doF A.now c) ≤ 67108864
    have h3 := used_do c h.srt
    have := h.used
    have := h.r1
    by_cases k : c.kind = 1
    ·
     rw [if_pos k] at h3
     have := h2 k
     omega
    ·
     rw [if_neg k] at h3
     omega
theorem Gs.sync {A : Ad} (h : Gs A) : Gs A.sync.1 := by
 unfold Ad.sync
 split
 ·
  exact h
 ·
  split
  ·
   exact h.off
  ·
   exact ⟨h.srt, h.used, h.r0, h.r1, fuse_spent h.fuse⟩
/-- a disk of little room, in every state -/
structure Rp (R : Nat) (A : Ad) : Prop where
 r0 : 0 ≤ A.room
 r1 : A.room ≤ (R : Int)
 all : A.loose.foldl doF A.sure = A.now
 pre : ∀ k, Srt ((A.loose.take k).foldl doF A.sure) ∧ (usedF ((A.loose.take k).foldl doF A.sure) : Int) ≤ A.room
theorem Rp.now {R : Nat} {A : Ad} (h : Rp R A) : Srt A.now ∧ (usedF A.now : Int) ≤ A.room := by
 have h1 := h.pre A.loose.length
 rw [List.take_length, h.all] at h1
 exact h1
theorem Rp.start {R : Nat} (room : Int) (h0 : 0 ≤ room) (h1 : room ≤ (R : Int)) : Rp R ⟨room, -1, false, [], [], []⟩ := ⟨h0, h1, rfl, fun k => by
 have e : ([] : List DCh).take k = [] := by simp
 show Srt (List.foldl doF [] (([] : List DCh).take k)) ∧ (usedF (List.foldl doF [] (([] : List DCh).take k)) : Int) ≤ room
 rw [e]
 exact ⟨List.Pairwise.nil, h0⟩⟩
theorem Rp.like {R : Nat} {A A' : Ad} (h : Rp R A) (e1 : A'.room = A.room) (e2 : A'.now = A.now) (e3 : A'.sure = A.sure) (e4 : A'.loose = A.loose) : Rp R A' :=
 ⟨by rw [e1]; exact h.r0, by rw [e1]; exact h.r1, by rw [e4, e3, e2]; exact h.all, fun k => by rw [e4, e3, e1]; exact h.pre k⟩
theorem Rp.step {R : Nat} {A : Ad} (h : Rp R A) (c : DCh) : Rp R (A.step c).1 := by
 unfold Ad.step
 split
 ·
  exact h
 ·
  split
  ·
   exact h
  ·
   rename_i hm
   have hm0 : A.may c = 0 := by omega
   obtain ⟨h1, h2⟩ := may_zeroP hm0
   obtain ⟨n1, n2⟩ := h.now
   split
   ·
    exact h.like rfl rfl rfl rfl
   ·
    refine ⟨h.r0, h.r1, ?_, fun k => ?_⟩
    ·
     show (A.loose ++ [c]).foldl doF A.sure = doF A.now c
     rw [List.foldl_append, h.all]
     rfl
    ·
     show Srt (((A.loose ++ [c]).take k).foldl doF A.sure) ∧ (usedF (((A.loose ++ [c]).take k).foldl doF A.sure) : Int) ≤ A.room
     by_cases hk : k ≤ A.loose.length
     ·
      rw [List.take_append_of_le_length hk]
      exact h.pre k
     ·
      rw [List.take_of_length_le (by rw [List.length_append, List.length_singleton]; omega), List.foldl_append, h.all]
      exact ⟨srt_do c n1 h1, used_may n1 n2 hm0⟩
theorem Rp.fresh {R : Nat} {A : Ad} (h : Rp R A) {l : Fls} {f : Int} {dn : Bool} (h1 : Srt l) (h2 : (usedF l : Int) ≤ A.room) : Rp R ⟨A.room, f, dn, l, l, []⟩ := ⟨h.r0, h.r1, rfl, fun k => by
 have e : ([] : List DCh).take k = [] := by simp
 show Srt (List.foldl doF l (([] : List DCh).take k)) ∧ (usedF (List.foldl doF l (([] : List DCh).take k)) : Int) ≤ A.room
 rw [e]
 exact ⟨h1, h2⟩⟩
theorem Rp.sync {R : Nat} {A : Ad} (h : Rp R A) : Rp R A.sync.1 := by
 unfold Ad.sync
 split
 ·
  exact h
 ·
  split
  ·
   exact h.like rfl rfl rfl rfl
  ·
   exact h.fresh (f := A.spent.fuse) (dn := A.spent.down) h.now.1 h.now.2
theorem Rp.fused {R : Nat} {A : Ad} (h : Rp R A) (n : Int) : Rp R (A.fused n).1 := by
 unfold Ad.fused
 split
 ·
  exact h
 ·
  exact h.like rfl rfl rfl rfl
theorem Rp.crash {R : Nat} {A : Ad} (h : Rp R A) (x y : Int) : Rp R (A.crash x y) := by
 obtain ⟨n1, n2⟩ := h.now
 have key : Srt (A.fin x y) ∧ (usedF (A.fin x y) : Int) ≤ A.room := by
  unfold Ad.fin
  split
  ·
   exact ⟨n1, n2⟩
  ·
   rename_i o ho
   obtain ⟨K, hK⟩ : ∃ K, K = (min (max x 0) (A.loose.length : Int)).toNat := ⟨_, rfl⟩
   rw [← hK] at ho ⊢
   obtain ⟨p1, p2⟩ := h.pre K
   split
   ·
    rename_i k1
    have hs := h.pre (K + 1)
    have e : A.loose.take (K + 1) = A.loose.take K ++ [o] := by
     rw [List.take_add_one, ho]
     rfl
    rw [e, List.foldl_append] at hs
    refine ⟨srt_do _ p1 fun k0 => by simp only at k0; omega, ?_⟩
    have h3 := used_part p1 k1 (min (max y 0) 1048576).toNat
    have h4 : (usedF (doF (List.foldl doF A.sure (A.loose.take K)) o) : Int) ≤ A.room := hs.2
    omega
   ·
    exact ⟨p1, p2⟩
 exact h.fresh (f := -1) (dn := false) key.1 key.2
theorem used_look {l : Fls} {n : ByteArray} {z : List Nat} (h : Srt l) (e : lookF l n = some z) : z.length ≤ usedF l := by
 have h1 := used_without (n := n) h
 rw [e] at h1
 simp only [Option.getD_some] at h1
 omega
theorem Rp.look {R : Nat} {A : Ad} (h : Rp R A) {n : ByteArray} {z : List Nat} (e : lookF A.now n = some z) : z.length ≤ R := by
 obtain ⟨n1, n2⟩ := h.now
 have := used_look n1 e
 have := h.r1
 omega
end Go.Proofs.YtihbgigledmliaaGreat

namespace Go.Proofs.YtihbgigledmliaaGreat
open Go.RowKit
set_option linter.unusedVariables false
theorem own_made (w : World) (B G : Nat) (cs : Array Value) (hB : B ≤ w.heap.size) (hG : cs.size = G) (hG2 : G ≤ 9223372036854775807) : Own (w.drew.alloc (.cells cs 5)) B (.slice (some ⟨w.heap.size, 0, none⟩) 0 G) [] := by
 refine ⟨rfl, .inr ⟨w.heap.size, G, cs, rfl, hB, heap_alloc_new w.drew _, Nat.zero_le _, hG2, by rw [Nat.mul_one]; exact hG, by simp [cellsOf]⟩⟩
set_option maxRecDepth 100000 in
set_option maxHeartbeats 1000000 in
/-- slices.Grow(nil, n) -/
theorem grow_nil_c (n : Nat) (w : World) (hn : n ≤ 140737488355328) : Calls Tryz.prog 119 #[.slice none 0 0, .int .i64 (n : Int)] w (RetB w.heap.size w []) := by
 obtain ⟨i0, hi, hz0, hz1, hz2⟩ := info_parts byteInfo
 by_cases h0 : n = 0
 ·
  subst h0
  go_enter Tryz.func119, Tryz.ntmps119
  go_wp2
  go_ret
  exact ⟨_, rfl, Own.nil _ _, Below.refl _ _⟩
 ·
  have hrz : ∀ ty, (Builtin.append_ #[38, 3] ty #[.slice none 0 0, .int .i64 (n : Int)]).run Tryz.prog w =
    .ok (.slice (some ⟨w.heap.size, 0, none⟩) n (grownCap w n 0 5)) (w.drew.alloc (.cells (([] : List Value).toArray ++ Builtin.zeroCells (Value.int .u8 0).cells n ++ Builtin.zeroCells (Value.int .u8 0).cells (grownCap w n 0 5 - n)) 5)) := fun ty => by
   have h := Lib.run_append_grow_zeros (P := Tryz.prog) w 38 3 ty 5 i0 (.int .u8 0) .i64 .i64 Tryz.underlying38 Tryz.underlying3 hi hz0 none 0 0 [] (run_firstCells_none w.drew i0.size 0 0 0) n (by omega) (by omega) (by omega) (by omega) (by rw [hz2]; omega)
    (by rw [Nat.zero_add]; exact growslice_fits (by omega) (by rw [hz2]; omega))
   simp only [Nat.zero_add] at h
   exact h
  have hGn : n ≤ grownCap w n 0 5 := grownCap_ge w _ _ _
  have hG63 : grownCap w n 0 5 ≤ 9223372036854775807 := by
   have := grownCap_le_maxLen w n 0 5 (by unfold maxLen; omega)
   unfold maxLen at this
   omega
  obtain ⟨G, hG⟩ : ∃ G, G = grownCap w n 0 5 := ⟨_, rfl⟩
  rw [← hG] at hrz hGn hG63
  have h1 : ¬ ((n : Int) < 0) := by omega
  have h2 : wrap64 ((n : Int) - 0) = (n : Int) := by unfold wrap64; omega
  have h4 : (n : Int) > 0 := by omega
  obtain ⟨cs, hcs⟩ : ∃ cs, cs = (([] : List Value).toArray ++ Builtin.zeroCells (Value.int .u8 0).cells n ++ Builtin.zeroCells (Value.int .u8 0).cells (G - n)) := ⟨_, rfl⟩
  rw [← hcs] at hrz
  have hcz : cs.size = G := by
   rw [hcs]
   simp only [Array.size_append, size_zeroCells]
   have e : (Value.int .u8 0).cells.size = 1 := rfl
   rw [e]
   simp
   omega
  clear hG hcs
  go_enter Tryz.func119, Tryz.ntmps119
  go_wp2_with (at_builtin; refine Lib.wpList_append_run _ rfl _ _ _ _ rfl _ _ rfl rfl _ _ (hrz _) ?_)
  go_ret
  exact ⟨_, rfl, own_made w _ G cs (Nat.le_refl _) hcz hG63, (below_drewN' _ w 1).trans ((Below.refl _ _).alloc (by simp [World.drewN]) _)⟩
/-- slices of bytes that can be read: address, length, capacity, bytes -/
abbrev Sl := Option Addr × Nat × Nat × List Nat
def slv (s : Sl) : Value := .slice s.1 s.2.1 s.2.2.1
def slz (s : Sl) : List Nat := s.2.2.2
def SlOk (w : World) (s : Sl) : Prop := Rd w s.1 s.2.1 s.2.2.2 ∧ (s.1 = none → s.2.2.1 = 0)
def catS (L : List Sl) : List Nat := (L.map slz).flatten
theorem catS_snoc (L : List Sl) (k : Nat) (s : Sl) (h : L[k]? = some s) : catS (L.take (k + 1)) = catS (L.take k) ++ slz s := by
 unfold catS
 rw [List.take_add_one, h]
 simp
theorem catS_le (L : List Sl) (k : Nat) : (catS (L.take k)).length ≤ (catS L).length := by
 have h : L = L.take k ++ L.drop k := by simp
 conv => rhs; rw [h]
 unfold catS
 rw [List.map_append, List.flatten_append, List.length_append]
 omega
theorem catS_all (L : List Sl) (k : Nat) (h : L.length ≤ k) : catS (L.take k) = catS L := by rw [List.take_of_length_le h]
theorem catS_byte {w : World} {L : List Sl} (h : ∀ s ∈ L, SlOk w s) (k : Nat) : ∀ z ∈ catS (L.take k), z < 256 := by
 intro z hz
 unfold catS at hz
 obtain ⟨l, hl, hz⟩ := List.mem_flatten.1 hz
 obtain ⟨s, hs, rfl⟩ := List.mem_map.1 hl
 exact (h s (List.mem_of_mem_take hs)).1.2.1 z hz
set_option maxRecDepth 100000 in
set_option maxHeartbeats 2000000 in
/-- slices.Concat of slices that stand in a row -/
theorem concat_c (L : List Sl) (hb k cap : Nat) (w : World) (hlen : L.length = k) (hk : k ≤ 4611686018427387904) (hbw : hb < w.heap.size) (hh : ∀ i s, L[i]? = some s → w.cell? ⟨hb, i, none⟩ = some (slv s)) (hok : ∀ s ∈ L, SlOk w s) (htot : (catS L).length ≤ 140737488355328) :
  Calls Tryz.prog 89 #[.slice (some ⟨hb, 0, none⟩) k cap] w (RetB w.heap.size w (catS L)) := by
 have HL := Lib.hid hlen
 have HH := Lib.hid hh
 have HOK := Lib.hid hok
 have HT := Lib.hid htot
 clear hlen hh hok htot
 go_enter Tryz.func89, Tryz.ntmps89
 go_wp2
 go_loopw [3, 11] (fun v i wr => ∃ j : Nat, j ≤ k ∧ i = .int .i64 j ∧ v = .int .i64 (((catS (L.take j)).length : Nat) : Int) ∧ w = wr) (fun _ i _ => k - (intOf i).toNat)
 case atStart => exact ⟨0, Nat.zero_le _, rfl, by simp [catS], rfl⟩
 case round =>
  obtain ⟨j, hj, rfl, rfl, rfl⟩ := hrel
  by_cases hjk : j < k
  ·
   obtain ⟨s, hs⟩ : ∃ s, L[j]? = some s := ⟨_, List.getElem?_eq_getElem (by rw [HL.out]; exact hjk)⟩
   have hcx := HH.out j s hs
   have hq := catS_snoc L j s hs
   have hle := catS_le L (j + 1)
   rw [hq, List.length_append] at hle
   have hsz := (HOK.out s (List.mem_of_getElem? hs)).1.1
   have hsl : (slz s).length = s.2.1 := hsz
   have htt := HT.out
   obtain ⟨S, hS⟩ : ∃ S, S = (catS (L.take j)).length := ⟨_, rfl⟩
   obtain ⟨a, n, c, zs⟩ := s
   simp only [slv] at hcx
   simp only at hsl
   have HE : Hid ((catS (L.take (j + 1))).length = S + n) := Lib.hid (by rw [hq, List.length_append, hsl, hS])
   rw [← hS] at hle ⊢
   rw [hsl] at hle
   have i0 : S + n ≤ 140737488355328 := by omega
   clear hS hq hsl hsz htt hle hs
   have i1 : ¬ ((S : Int) + (n : Int) < 0) := by omega
   have i2 : wrap64 ((S : Int) + (n : Int)) = ((S + n : Nat) : Int) := by unfold wrap64; omega
   go_wp2
   go_roundw
   case rel => exact ⟨j + 1, by omega, by go_num, by rw [HE.out]; first | rfl | (congr 1; omega), by first | trivial | rfl⟩
   case measure => simp [intOf]; omega
  ·
   have hA := catS_all L j (by rw [HL.out]; omega)
   rw [hA]
   have HG := Lib.hid ((grow_nil_c (catS L).length w HT.out))
   obtain ⟨S, hS⟩ : ∃ S, S = (catS L).length := ⟨_, rfl⟩
   rw [← hS] at HG ⊢
   have i9 : ¬ ((j : Int) < (k : Int)) := by omega
   clear hA hS
   go_wp2_with fail
   refine HG.out.mono ?_
   rintro e2 w2 ⟨v2, rfl, ho2, hb2⟩
   have HO := Lib.hid ho2
   have HB := Lib.hid hb2
   clear ho2 hb2 HG
   go_wp2_with fail
   go_loopw [6, 27] (fun v i wr => ∃ m : Nat, m ≤ k ∧ i = .int .i64 m ∧ Hid (Own wr w.heap.size v (catS (L.take m))) ∧ Hid (Below w.heap.size w wr)) (fun _ i _ => k - (intOf i).toNat)
   case atStart => exact ⟨0, Nat.zero_le _, rfl, by simpa [catS] using HO, HB⟩
   case round =>
    clear HO HB
    obtain ⟨m, hm, rfl, HO, HB⟩ := hrel
    by_cases hmj : m < k
    ·
     obtain ⟨s, hs⟩ : ∃ s, L[m]? = some s := ⟨_, List.getElem?_eq_getElem (by rw [HL.out]; exact hmj)⟩
     have hcx := ((HB.out.cell (p := ⟨hb, m, none⟩) (by exact hbw))).trans (HH.out m s hs)
     have HQ := Lib.hid (catS_snoc L m s hs)
     have hle := catS_le L (m + 1)
     rw [HQ.out, List.length_append] at hle
     have hs2 := HOK.out s (List.mem_of_getElem? hs)
     have hLE : (catS (L.take m)).length + (slz s).length ≤ 140737488355328 := by have := HT.out; omega
     obtain ⟨a, n, c, zs⟩ := s
     simp only [slv] at hcx
     have HLE := Lib.hid (show (catS (L.take m)).length + zs.length ≤ 140737488355328 from hLE)
     have HRD := Lib.hid (show Rd wr a n zs from hs2.1.below HB.out)
     have HNN := Lib.hid (show a = none → c = 0 from hs2.2)
     have HBY := Lib.hid (catS_byte HOK.out m)
     have hsz := HB.out.size
     clear hle hs2 hs hLE
     go_wp2_with (at_builtin; (refine wpList_catR rfl (.tmp 31) (.tmp 32) rfl w.heap.size _ (catS (L.take m)) zs rfl HO.out hsz a n c rfl HRD.out HNN.out HBY.out HLE.out ?_); intro a3 L3 c3 w3 g1 g2 g3 g4 g5 g6 g7; have HO3 := Lib.hid (show Own w3 w.heap.size (.slice a3 L3 c3) (catS (L.take (m + 1))) from by have e := HQ.out; simp only [slz] at e; rw [e]; exact g6); have HB3 := Lib.hid (HB.out.trans g7); clear g1 g2 g3 g4 g5 g6 g7)
     go_roundw
     case rel => exact ⟨m + 1, by omega, by go_num, HO3, HB3⟩
     case measure => simp [intOf]; omega
    ·
     have hA := catS_all L m (by rw [HL.out]; omega)
     rw [hA] at HO
     go_wp2_with fail
     go_ret
     exact ⟨_, rfl, HO.out, HB.out⟩
end Go.Proofs.YtihbgigledmliaaGreat

namespace Go.Proofs.YtihbgigledmliaaGreat.Crcm
/-- one turn of the register, on numbers of any size -/
def s (x : Nat) : Nat := (x >>> 1) ^^^ (if x % 2 = 1 then 3988292384 else 0)
def sN : Nat → Nat → Nat
 | 0, x => x
 | n + 1, x => sN n (s x)
def byte (c : Nat) (b : Nat) : Nat := sN 8 (c ^^^ b)
/-- the register behind the bytes -/
def reg (c : Nat) (l : List Nat) : Nat := l.foldl byte c
theorem sN_add (m n x : Nat) : sN (m + n) x = sN n (sN m x) := by
 induction m generalizing x with
 | zero => simp [sN]
 | succ m ih => rw [Nat.succ_add]; simp only [sN]; exact ih _
theorem s_lt (x : Nat) (h : x < 4294967296) : s x < 4294967296 := by
 unfold s
 have h1 : x >>> 1 < 2 ^ 32 := by rw [Nat.shiftRight_eq_div_pow]; omega
 have h2 : (if x % 2 = 1 then 3988292384 else 0) < 2 ^ 32 := by split <;> decide
 exact Nat.xor_lt_two_pow h1 h2
theorem sN_lt (n x : Nat) (h : x < 4294967296) : sN n x < 4294967296 := by
 induction n generalizing x with
 | zero => exact h
 | succ n ih => exact ih _ (s_lt x h)
end Go.Proofs.YtihbgigledmliaaGreat.Crcm

namespace Go.Proofs.YtihbgigledmliaaGreat
open Go.RowKit
theorem reg_lt' (zs : List Nat) (hz : ∀ z ∈ zs, z < 256) : ∀ c, c < 4294967296 → Crcm.reg c zs < 4294967296 := by
 induction zs with
 | nil => intro c h; exact h
 | cons z zs ih =>
  intro c h
  refine ih (fun x hx => hz x (List.mem_cons_of_mem _ hx)) _ (Crcm.sN_lt _ _ ?_)
  have := hz z List.mem_cons_self
  exact Nat.xor_lt_two_pow (n := 32) (by omega) (by omega)
theorem reg_lt (zs : List Nat) (hz : ∀ z ∈ zs, z < 256) (k : Nat) : Crcm.reg 4294967295 (zs.take k) < 4294967296 :=
 reg_lt' _ (fun x hx => hz x (List.mem_of_mem_take hx)) _ (by omega)
theorem reg_snoc (zs : List Nat) (k : Nat) (h : k < zs.length) : Crcm.reg 4294967295 (zs.take (k + 1)) = Crcm.sN 8 (Crcm.reg 4294967295 (zs.take k) ^^^ zs[k]) := by
 unfold Crcm.reg
 rw [List.take_succ_eq_append_getElem h, List.foldl_append]
 rfl
theorem turn_eq (C : Nat) (h : C < 4294967296) : bits .xor .u32 ((C:Int) / 2) (bits .and .u32 3988292384 (-(bits .and .u32 (C:Int) 1) % 4294967296)) = ((Crcm.s C : Nat) : Int) := by
 have e1 : bits .and .u32 (C:Int) 1 = ((C % 2 : Nat) : Int) := by
  have := u32_and_nat C 1 h (by omega)
  rw [Nat.and_one_is_mod] at this
  exact this
 have e2 : ((C : Int) / 2) = ((C / 2 : Nat) : Int) := by omega
 rw [e1, e2]
 unfold Crcm.s
 rcases Nat.mod_two_eq_zero_or_one C with h0 | h1
 ·
  rw [h0]
  have := u32_and_nat 3988292384 0 (by omega) (by omega)
  rw [show (-((0 : Nat) : Int) % 4294967296) = ((0 : Nat) : Int) by omega]
  rw [show (3988292384 : Int) = ((3988292384 : Nat) : Int) by rfl, this]
  rw [show 3988292384 &&& 0 = 0 by decide, u32_xor_nat _ _ (by omega) (by omega)]
  simp [Nat.shiftRight_eq_div_pow]
 ·
  rw [h1]
  have := u32_and_nat 3988292384 4294967295 (by omega) (by omega)
  rw [show (-((1 : Nat) : Int) % 4294967296) = ((4294967295 : Nat) : Int) by omega]
  rw [show (3988292384 : Int) = ((3988292384 : Nat) : Int) by rfl, this]
  rw [show 3988292384 &&& 4294967295 = 3988292384 by decide, u32_xor_nat _ _ (by omega) (by omega)]
  simp [Nat.shiftRight_eq_div_pow]
theorem Crcm.sN_succ (m X : Nat) : Crcm.sN (m + 1) X = Crcm.s (Crcm.sN m X) := by
 rw [Crcm.sN_add]; rfl
theorem not_eq (C : Nat) (h : C < 4294967296) : bits .xor .u32 IntKind.u32.max (C : Int) = ((4294967295 - C : Nat) : Int) := by
 have e : IntKind.u32.max = ((4294967295 : Nat) : Int) := rfl
 rw [e, u32_xor_nat _ _ (by omega) h]
 congr 1
 apply Nat.eq_of_testBit_eq
 intro i
 have h1 := Nat.testBit_two_pow_sub_succ (n := 32) h i
 have h2 := Nat.testBit_two_pow_sub_succ (n := 32) (x := 0) (by omega) i
 rw [show 2 ^ 32 - (C + 1) = 4294967295 - C by omega] at h1
 rw [show 2 ^ 32 - (0 + 1) = 4294967295 by omega] at h2
 rw [h1, Nat.testBit_xor, h2]
 by_cases hi : i < 32
 ·
  simp [hi]
 ·
  have : C.testBit i = false := Nat.testBit_lt_two_pow (Nat.lt_of_lt_of_le h (show 4294967296 ≤ 2 ^ i from Nat.pow_le_pow_right (n := 2) (by omega) (show 32 ≤ i by omega)))
  simp [hi, this]
theorem x0 (C z : Nat) (h : C < 4294967296) (hz : z < 256) : bits BinOp.xor IntKind.u32 (C : Int) ((z : Int) % 4294967296) = ((C ^^^ z : Nat) : Int) := by
 rw [show ((z : Int) % 4294967296) = ((z : Nat) : Int) by omega]
 exact u32_xor_nat C z h (by omega)
set_option maxHeartbeats 400000 in
theorem crc_some (b off len cap : Nat) (zs : List Nat) (w : World) (hl : zs.length = len) (hm : len ≤ 9223372036854775807) (hz : ∀ z ∈ zs, z < 256)
  (hcell : ∀ i, i < len → w.cell? ⟨b, off + i, none⟩ = some (.int .u8 ((zs.getD i 0 : Nat) : Int))) :
  Calls Tryz.prog 90 #[.slice (some ⟨b, off, none⟩) len cap] w fun e w' => e = .returned (.int .u32 (4294967295 - Crcm.reg 4294967295 zs : Nat)) ∧ w = w' := by
 go_enter Tryz.func90, Tryz.ntmps90
 go_wp2
 go_loop [3, 8] (fun c i => ∃ k : Nat, k ≤ len ∧ i = .int .i64 k ∧ c = .int .u32 (Crcm.reg 4294967295 (zs.take k) : Nat)) (fun _ i => len - (intOf i).toNat)
 case atStart => exact ⟨0, Nat.zero_le _, rfl, rfl⟩
 case round =>
  obtain ⟨k, hk, rfl, rfl⟩ := hrel
  have hcx : k < len → w.cell? ⟨b, off + k, none⟩ = some (.int .u8 ((zs.getD k 0 : Nat) : Int)) := fun h => hcell k h
  clear hcell
  go_wp2
  ·
   have hk1 : k < len := by assumption
   have hR := reg_lt zs hz k
   have hzk : zs[k] < 256 := hz _ (List.getElem_mem _)
   have e0 := x0 (Crcm.reg 4294967295 (zs.take k)) zs[k] hR hzk
   rw [e0]
   clear e0 hcx
   obtain ⟨X, hX⟩ : ∃ X, X = Crcm.reg 4294967295 (List.take k zs) ^^^ zs[k] := ⟨_, rfl⟩
   have HX := Lib.hid hX
   have hX4 : X < 4294967296 := by rw [hX]; exact Nat.xor_lt_two_pow (n := 32) (by omega) (by omega)
   rw [← hX]
   clear hX
   go_loop [3, 16] (fun c j => ∃ m : Nat, m ≤ 8 ∧ j = .int .i64 m ∧ c = .int .u32 (Crcm.sN m X : Nat)) (fun _ j => 8 - (intOf j).toNat)
   case atStart => exact ⟨0, by omega, rfl, rfl⟩
   case round =>
    obtain ⟨m, hm8, rfl, rfl⟩ := hrel
    have hS : Crcm.sN m X < 4294967296 := Crcm.sN_lt _ _ hX4
    have HT := Lib.hid (turn_eq (Crcm.sN m X) hS)
    have HN := Lib.hid (Crcm.sN_succ m X)
    go_wp2
    ·
     go_round
     case rel => exact ⟨m + 1, by omega, by go_num, by rw [HN.out, ← HT.out]⟩
     case measure => simp [intOf]; omega
    ·
     go_round
     case rel => exact ⟨k + 1, by omega, by go_num, by rw [reg_snoc zs k (by omega), ← HX.out, show m = 8 by omega]⟩
     case measure => simp [intOf]; omega
  ·
   go_ret
   have hk : k = len := by omega
   subst hk
   refine ⟨?_, rfl⟩
   have hR := reg_lt' zs hz 4294967295 (by omega)
   rw [List.take_of_length_le (by omega)]
   exact ret_int (not_eq _ hR)
theorem crc_nil (a : Option Addr) (cap : Nat) (w : World) :
  Calls Tryz.prog 90 #[.slice a 0 cap] w fun e w' => e = .returned (.int .u32 0) ∧ w = w' := by
 go_enter Tryz.func90, Tryz.ntmps90
 go_wp2
 refine wp_loop_rounds 1 ?_
 rw [rounds_succ]
 go_wp2
 go_ret
 exact ⟨rfl, rfl⟩
/-- octet.Crc: the complement of the register -/
theorem crc_c (a : Option Addr) (len cap : Nat) (zs : List Nat) (w : World) (h : Rd w a len zs) (hm : len ≤ 9223372036854775807) :
  Calls Tryz.prog 90 #[.slice a len cap] w fun e w' => e = .returned (.int .u32 ((4294967295 - Crcm.reg 4294967295 zs : Nat) : Int)) ∧ w = w' := by
 obtain ⟨hl, hz, h0 | ⟨b, off, rfl, _, hc⟩⟩ := h
 ·
  subst h0
  obtain rfl : zs = [] := List.eq_nil_of_length_eq_zero hl
  exact (crc_nil a cap w).mono fun e w' h => h
 ·
  exact crc_some b off len cap zs w hl hm hz hc
theorem half_eq (C : Nat) (h : C < 4294967296) (h1 : C % 2 = 1) : bits .xor .u32 ((C:Int) / 2) 3988292384 = ((Crcm.s C : Nat) : Int) := by
 have e2 : ((C : Int) / 2) = ((C / 2 : Nat) : Int) := by omega
 rw [e2, show (3988292384 : Int) = ((3988292384 : Nat) : Int) by rfl, u32_xor_nat _ _ (by omega) (by omega)]
 unfold Crcm.s
 rw [if_pos h1, Nat.shiftRight_eq_div_pow]
theorem half_eq0 (C : Nat) (h1 : C % 2 = 0) : ((C:Int) / 2) = ((Crcm.s C : Nat) : Int) := by
 have e2 : ((C : Int) / 2) = ((C / 2 : Nat) : Int) := by omega
 unfold Crcm.s
 rw [e2, if_neg (by omega), Nat.shiftRight_eq_div_pow, Nat.xor_zero]
set_option maxHeartbeats 400000 in
theorem refCrc_some (b off len cap : Nat) (zs : List Nat) (w : World) (hl : zs.length = len) (hm : len ≤ 9223372036854775807) (hz : ∀ z ∈ zs, z < 256)
  (hcell : ∀ i, i < len → w.cell? ⟨b, off + i, none⟩ = some (.int .u8 ((zs.getD i 0 : Nat) : Int))) :
  Calls Tryz.prog 94 #[.slice (some ⟨b, off, none⟩) len cap] w fun e w' => e = .returned (.int .u32 ((4294967295 - Crcm.reg 4294967295 zs : Nat) : Int)) ∧ w = w' := by
 go_enter Tryz.func94, Tryz.ntmps94
 go_wp2
 go_loop [3, 4] (fun c i => ∃ k : Nat, k ≤ len ∧ i = .int .i64 k ∧ c = .int .u32 (Crcm.reg 4294967295 (zs.take k) : Nat)) (fun _ i => len - (intOf i).toNat)
 case atStart => exact ⟨0, Nat.zero_le _, rfl, rfl⟩
 case round =>
  obtain ⟨k, hk, rfl, rfl⟩ := hrel
  have hcx : k < len → w.cell? ⟨b, off + k, none⟩ = some (.int .u8 ((zs.getD k 0 : Nat) : Int)) := fun h => hcell k h
  clear hcell
  go_wp2
  ·
   have hk1 : k < len := by assumption
   have hR := reg_lt zs hz k
   have hzk : zs[k] < 256 := hz _ (List.getElem_mem _)
   have e0 := x0 (Crcm.reg 4294967295 (zs.take k)) zs[k] hR hzk
   rw [e0]
   clear e0 hcx
   obtain ⟨X, hX⟩ : ∃ X, X = Crcm.reg 4294967295 (List.take k zs) ^^^ zs[k] := ⟨_, rfl⟩
   have HX := Lib.hid hX
   have hX4 : X < 4294967296 := by rw [hX]; exact Nat.xor_lt_two_pow (n := 32) (by omega) (by omega)
   rw [← hX]
   clear hX
   go_loop [3, 5] (fun c j => ∃ m : Nat, m ≤ 8 ∧ j = .int .i64 m ∧ c = .int .u32 (Crcm.sN m X : Nat)) (fun _ j => 8 - (intOf j).toNat)
   case atStart => exact ⟨0, by omega, rfl, rfl⟩
   case round =>
    obtain ⟨m, hm8, rfl, rfl⟩ := hrel
    have hS : Crcm.sN m X < 4294967296 := Crcm.sN_lt _ _ hX4
    have HN := Lib.hid (Crcm.sN_succ m X)
    rcases Nat.mod_two_eq_zero_or_one (Crcm.sN m X) with hm2 | hm2
    ·
     have hE := Lib.hid (half_eq0 _ hm2)
     have h2 : ((Crcm.sN m X : Nat) : Int) % 2 = 0 := by omega
     clear hm2
     go_wp2
     ·
      go_round
      case rel => exact ⟨m + 1, by omega, by go_num, by rw [HN.out, ← hE.out]⟩
      case measure => simp [intOf]; omega
     ·
      go_round
      case rel => exact ⟨k + 1, by omega, by go_num, by rw [reg_snoc zs k (by omega), ← HX.out, show m = 8 by omega]⟩
      case measure => simp [intOf]; omega
    ·
     have hE := Lib.hid (half_eq _ hS hm2)
     have h2 : ((Crcm.sN m X : Nat) : Int) % 2 = 1 := by omega
     clear hm2
     go_wp2
     ·
      go_round
      case rel => exact ⟨m + 1, by omega, by go_num, by rw [HN.out, ← hE.out]⟩
      case measure => simp [intOf]; omega
     ·
      go_round
      case rel => exact ⟨k + 1, by omega, by go_num, by rw [reg_snoc zs k (by omega), ← HX.out, show m = 8 by omega]⟩
      case measure => simp [intOf]; omega
  ·
   go_ret
   have hk : k = len := by omega
   subst hk
   refine ⟨?_, rfl⟩
   have hR := reg_lt' zs hz 4294967295 (by omega)
   rw [List.take_of_length_le (by omega)]
   exact ret_int (by omega)
theorem refCrc_nil (a : Option Addr) (cap : Nat) (w : World) :
  Calls Tryz.prog 94 #[.slice a 0 cap] w fun e w' => e = .returned (.int .u32 0) ∧ w = w' := by
 go_enter Tryz.func94, Tryz.ntmps94
 go_wp2
 refine wp_loop_rounds 1 ?_
 rw [rounds_succ]
 go_wp2
 go_ret
 exact ⟨rfl, rfl⟩
/-- the document's Crc: the complement of the register -/
theorem refCrc_c (a : Option Addr) (len cap : Nat) (zs : List Nat) (w : World) (h : Rd w a len zs) (hm : len ≤ 9223372036854775807) :
  Calls Tryz.prog 94 #[.slice a len cap] w fun e w' => e = .returned (.int .u32 ((4294967295 - Crcm.reg 4294967295 zs : Nat) : Int)) ∧ w = w' := by
 obtain ⟨hl, hz, h0 | ⟨b, off, rfl, _, hc⟩⟩ := h
 ·
  subst h0
  obtain rfl : zs = [] := List.eq_nil_of_length_eq_zero hl
  exact (refCrc_nil a cap w).mono fun e w' h => h
 ·
  exact refCrc_some b off len cap zs w hl hm hz hc
end Go.Proofs.YtihbgigledmliaaGreat

namespace Go.Proofs.YtihbgigledmliaaGreat.Frm
open Go.Proofs.YtihbgigledmliaaGreat.Numm
set_option linter.unusedVariables false
def crcL (l : List Nat) : Nat := 4294967295 - Crcm.reg 4294967295 l
def frameL (p : List Nat) : List Nat := put p.length 4 ++ (put (crcL (put p.length 4 ++ p)) 4 ++ p)
theorem frame_len (p : List Nat) : (frameL p).length = 8 + p.length := by simp [frameL, put_len]; omega
theorem frame_byte (p : List Nat) (h : ∀ z ∈ p, z < 256) : ∀ z ∈ frameL p, z < 256 := by
 intro z hz
 simp only [frameL, List.mem_append] at hz
 rcases hz with hz | hz | hz
 ·
  exact put_byte _ _ z hz
 ·
  exact put_byte _ _ z hz
 ·
  exact h z hz
theorem frame_drop (p : List Nat) : (frameL p).drop 8 = p := by
 unfold frameL
 rw [<- List.append_assoc, List.drop_append, List.drop_eq_nil_of_le (by simp [put_len]), List.nil_append]
 simp [put_len]
def wordL (b : List Nat) : Nat := num 0 [b.getD 0 0, b.getD 1 0, b.getD 2 0, b.getD 3 0]
def FirstOk (b : List Nat) : Prop := 8 ≤ b.length ∧ wordL b ≤ 1048576 ∧ wordL b + 8 ≤ b.length ∧ frameL ((b.drop 8).take (wordL b)) = b.take (8 + wordL b)
instance (b : List Nat) : Decidable (FirstOk b) := by unfold FirstOk; exact inferInstance
def firstL (b : List Nat) : Option (List Nat) := if FirstOk b then some ((b.drop 8).take (wordL b)) else none
theorem first_some {b p : List Nat} (h : firstL b = some p) : 8 + p.length ≤ b.length ∧ p.length = wordL b ∧ p.length ≤ 1048576 ∧ p = (b.drop 8).take (wordL b) ∧ frameL p = b.take (8 + p.length) := by
 unfold firstL at h
 split at h
 ·
  rename_i hk
  obtain ⟨h1, h2, h3, h4⟩ := hk
  cases h
  have e : ((b.drop 8).take (wordL b)).length = wordL b := by simp; omega
  rw [e]
  exact ⟨by omega, rfl, h2, rfl, h4⟩
 ·
  cases h
theorem first_none {b : List Nat} (h : ¬ FirstOk b) : firstL b = none := if_neg h
/-- the records that bytes begin with, and how many bytes these take -/
def scanF : Nat → List Nat → List (List Nat) × Nat
 | 0, _ => ([], 0)
 | f + 1, b => match firstL b with
  | none => ([], 0)
  | some p => (p :: (scanF f (b.drop (8 + p.length))).1, 8 + p.length + (scanF f (b.drop (8 + p.length))).2)
theorem first_short {b : List Nat} (h : b.length < 8) : firstL b = none := first_none fun hk => absurd hk.1 (by omega)
theorem scanF_fuel : ∀ (f g : Nat) (b : List Nat), b.length ≤ f → b.length ≤ g → scanF f b = scanF g b
 | 0, 0, _, _, _ => rfl
 | 0, g + 1, b, hf, hg => by rw [scanF, scanF, first_short (by omega)]
 | f + 1, 0, b, hf, hg => by rw [scanF, scanF, first_short (by omega)]
 | f + 1, g + 1, b, hf, hg => by
  rw [scanF, scanF]
  split
  ·
   rfl
  ·
   rename_i p hp
   obtain ⟨h1, _⟩ := first_some hp
   rw [scanF_fuel f g (b.drop (8 + p.length)) (by rw [List.length_drop]; omega) (by rw [List.length_drop]; omega)]
def scanL (b : List Nat) : List (List Nat) × Nat := scanF b.length b
theorem scan_none {b : List Nat} (h : firstL b = none) : scanL b = ([], 0) := by
 unfold scanL
 cases hb : b.length with
 | zero => rfl
 | succ n => rw [scanF, h]
theorem scan_some {b p : List Nat} (h : firstL b = some p) : scanL b = (p :: (scanL (b.drop (8 + p.length))).1, 8 + p.length + (scanL (b.drop (8 + p.length))).2) := by
 obtain ⟨h1, _⟩ := first_some h
 unfold scanL
 rw [scanF_fuel b.length (b.length + 1) b (by omega) (by omega), scanF, h]
 simp only
 rw [scanF_fuel b.length (b.drop (8 + p.length)).length (b.drop (8 + p.length)) (by rw [List.length_drop]; omega) (by omega)]
theorem scan_le : ∀ (n : Nat) (b : List Nat), b.length ≤ n → (scanL b).2 ≤ b.length
 | 0, b, hn => by rw [scan_none (first_short (by omega))]; exact Nat.zero_le _
 | n + 1, b, hn => by
  cases hf : firstL b with
  | none => rw [scan_none hf]; exact Nat.zero_le _
  | some p =>
   obtain ⟨h1, _⟩ := first_some hf
   rw [scan_some hf]
   have := scan_le n (b.drop (8 + p.length)) (by rw [List.length_drop]; omega)
   rw [List.length_drop] at this
   show 8 + p.length + _ ≤ _
   omega
theorem crc_lt (l : List Nat) : crcL l < 4294967296 := by unfold crcL; omega
end Go.Proofs.YtihbgigledmliaaGreat.Frm
namespace Go.Proofs.YtihbgigledmliaaGreat
open Go.RowKit
set_option linter.unusedVariables false
section
variable {P : Program} {ops : Array Oper} {Q : Exit → Act → World → Prop} {md : Region.Mode} {S : World → Prop}
/-- an operation that has no other beside it, by its run -/
theorem anyH_runG (i : Nat) {d : Option Tmp} {op : Op} {v : Value} {w' : World} {fuel : Nat} {listed : Array Bool} {a : Act} {w : World} (h0 : Region.ready md ops listed = [i])
  (hi : (ops[i]?.map fun o => (o.dst, o.op, o.guard)) = some (d, op, none)) (hr : ∀ o : Oper, o.op = op → (execOp a.eval o).run P w = .ok (.value v) w') (hS : S w')
  (h : wpAnyH P md ops Q S fuel (listed.setIfInBounds i true) (a.put d v) w') : wpAnyH P md ops Q S (fuel + 1) listed a w := by
 refine wpAnyH_all h0 (by simp) ?_
 intro k hk
 simp only [List.mem_cons, List.not_mem_nil, or_false] at hk
 subst hk
 cases ho : ops[k]? with
 | none => simp [ho] at hi
 | some o =>
  simp only [ho, Option.map_some, Option.some.injEq, Prod.mk.injEq] at hi
  obtain ⟨g1, g2, g3⟩ := hi
  unfold wpOp
  simp only [ho, wanted_plain g3, if_true]
  refine .inl ?_
  unfold Oper.wp
  rw [hr o g2]
  rw [← g1] at h
  exact ⟨hS, h⟩
end
theorem exec_copy {P : Program} {a : Act} {o : Oper} {w w' : World} {x y : Operand} {t s : TypeId} {v u r : Value} (ho : o.op = .call { callee := .builtin .copy, args := #[x, y], argTypes := #[t, s] }) (hx : a.eval x = v) (hy : a.eval y = u)
  (hr : (Builtin.copy_ #[t, s] o.type #[v, u]).run P w = .ok r w') : (execOp a.eval o).run P w = .ok (.value r) w' := by
 unfold execOp
 simp only [ho]
 rw [Sem.run_bind]
 unfold resolve
 simp only [Sem.run_pure, Result.andThen_ok, invoke, builtin, List.map_toArray, List.map_cons, List.map_nil, hx, hy]
 rw [Sem.run_bind, hr]
 rfl
theorem exec_cut4 {L c : Nat} (hL : 4 ≤ L) (hc : 4 < c) (g : Nat) (a : Act) {x : Operand} (hx : a.eval x = .slice (some ⟨g, 0, none⟩) L c) (o : Oper) (ho : o.op = .slice 38 x (some (.const (.int .i64 4))) none none) (W : World) :
  (execOp a.eval o).run Tryz.prog W = .ok (.value (.slice (some ⟨g, 4, none⟩) (L - 4) (c - 4))) W := by
 unfold execOp
 simp only [ho, hx, Option.map_none, Option.map_some, show a.eval (.const (.int .i64 4)) = .int .i64 ((4 : Nat) : Int) from rfl, run_cutAt W _ L c 4 hL, Sem.run_bind, Result.andThen_ok, Sem.run_pure]
 rw [show sla (some ⟨g, 0, none⟩) c 4 = some ⟨g, 4, none⟩ by unfold sla; rw [if_neg (by omega)]; rfl]
/-- a frame that is being made: its bytes, and what was there -/
structure FrmW (w : World) (g L c : Nat) (Z : List Nat) (W : World) : Prop where
 own : Own W w.heap.size (.slice (some ⟨g, 0, none⟩) L c) Z
 len : Z.length = L
 byte : ∀ z ∈ Z, z < 256
 below : Below w.heap.size w W
def FrmS (w : World) (g L c : Nat) (W : World) : Prop := ∃ Z, FrmW w g L c Z W
theorem FrmW.held {w W : World} {g L c : Nat} {Z : List Nat} (h : FrmW w g L c Z W) : FrmS w g L c W := ⟨Z, h⟩
theorem FrmW.step {w W W' : World} {g L c : Nat} {Z : List Nat} (h : FrmW w g L c Z W) (hb : Below W.heap.size W W') : FrmW w g L c Z W' := ⟨h.own.keep hb, h.len, h.byte, h.below.trans (hb.mono h.below.size)⟩
theorem FrmW.drew {w W : World} {g L c : Nat} {Z : List Nat} (h : FrmW w g L c Z W) : FrmW w g L c Z W.drew := h.step (below_drewN' _ W 1)
theorem own_open {W : World} {B g L c : Nat} {Z : List Nat} (h : Own W B (.slice (some ⟨g, 0, none⟩) L c) Z) (hl : Z.length = L) : ∃ cur : Array Value, B ≤ g ∧ W.heap[g]? = some (.cells cur 5 (0, 0)) ∧ L ≤ c ∧ c ≤ 9223372036854775807 ∧ cur.size = c ∧ cur.toList.take L = cellsOf Z := by
 rcases h.2 with ⟨h0, _⟩ | ⟨g', cap, cur, hv, hb, hh, hn, hm, hs, ht⟩
 ·
  cases h0
 ·
  cases hv
  rw [hl] at hn
  rw [hl, Nat.mul_one] at ht
  exact ⟨cur, hb, hh, hn, hm, by rw [hs, Nat.mul_one], ht⟩
theorem own_shut {W : World} {B g L c : Nat} {Z : List Nat} {cur : Array Value} (hl : Z.length = L) (hb : B ≤ g) (hh : W.heap[g]? = some (.cells cur 5 (0, 0))) (hn : L ≤ c) (hm : c ≤ 9223372036854775807) (hs : cur.size = c) (ht : cur.toList.take L = cellsOf Z) : Own W B (.slice (some ⟨g, 0, none⟩) L c) Z := by
 subst hl
 exact ⟨by rw [cellsOf_length, Nat.mul_one], .inr ⟨g, c, cur, rfl, hb, hh, hn, hm, by rw [hs, Nat.mul_one], by rw [Nat.mul_one]; exact ht⟩⟩
theorem frm_copy {w W : World} {g L c : Nat} {Z P : List Nat} {a2 : Option Addr} (h : FrmW w g L c Z W) (hr : Rd W a2 4 P) (h8 : 8 ≤ L) (c2 : Nat) :
  ∃ W3, (∀ ty, (Builtin.copy_ #[38, 38] ty #[.slice (some ⟨g, 4, none⟩) (L - 4) (c - 4), .slice a2 4 c2]).run Tryz.prog W = .ok (.int .i64 4) W3) ∧ FrmW w g L c (Z.take 4 ++ (P ++ Z.drop 8)) W3 := by
 obtain ⟨i0, hi, hz0, hz1, hz2⟩ := info_parts byteInfo
 obtain ⟨cur, hbg, hh, hn, hm, hs, ht⟩ := own_open h.own h.len
 obtain ⟨hp, hpb, hcell⟩ := hr
 obtain ⟨b, off, rfl, hb, hcell⟩ := hcell.resolve_left (by omega)
 have hct : cur.toList.length = c := by rw [Array.length_toList, hs]
 have hzl := h.len
 have hcs : (cellsOf P).length = 4 := by rw [cellsOf_length, hp]
 refine ⟨W.setRow g (cur.toList.take 4 ++ cellsOf P ++ cur.toList.drop (4 + 4)).toArray, fun ty => ?_, ?_⟩
 ·
  have hrun := run_copy_row (P := Tryz.prog) W 38 38 ty 5 g 4 (L - 4) (c - 4) ⟨b, off, none⟩ 4 c2 cur 5 (cellsOf P) Tryz.underlying38 (by rw [hi]; simp [hz1]) hh (by rw [hcs]; show 4 = min 4 (L - 4); omega)
   (fun j v hj => by
    have hjl : j < 4 := by rw [← hcs]; exact (List.getElem?_eq_some_iff.1 hj).1
    rw [cellsOf_get P j (by omega)] at hj
    cases hj
    rw [Addr.add_mid]
    exact hcell j hjl) (by rw [hcs]; omega) (cellsOf_one P)
  rw [hcs] at hrun
  exact hrun
 ·
  refine ⟨own_shut ?_ hbg (setRow_heap W g cur _ 5 (0, 0) hh) hn hm ?_ ?_, ?_, ?_, h.below.setRow hbg _⟩
  ·
   simp only [List.length_append, List.length_take, List.length_drop, hp]; omega
  ·
   simp only [List.size_toArray, List.length_append, List.length_take, List.length_drop, hcs, hct]; omega
  ·
   rw [List.toList_toArray, cellsOf_append, cellsOf_append]
   have e1 : cellsOf (Z.take 4) = cur.toList.take 4 := by
    have := congrArg (List.take 4) ht
    rw [List.take_take, Nat.min_eq_left (by omega)] at this
    rw [this]; simp [cellsOf, List.map_take]
   have e2 : cellsOf (Z.drop 8) = (cur.toList.drop 8).take (L - 8) := by
    have := congrArg (List.drop 8) ht
    rw [List.drop_take] at this
    rw [this]; simp [cellsOf, List.map_drop]
   rw [e1, e2, ← List.append_assoc]
   have hl8 : (cur.toList.take 4 ++ cellsOf P).length = 8 := by rw [List.length_append, List.length_take, hcs, hct]; omega
   obtain ⟨X, hX⟩ : ∃ X, X = cur.toList.take 4 ++ cellsOf P := ⟨_, rfl⟩
   rw [← hX] at hl8 ⊢
   rw [List.take_append, List.take_of_length_le (by omega), hl8]
  ·
   simp only [List.length_append, List.length_take, List.length_drop, hp]; omega
  ·
   intro z hz
   simp only [List.mem_append] at hz
   rcases hz with hz | hz | hz
   ·
    exact h.byte z (List.mem_of_mem_take hz)
   ·
    exact hpb z hz
   ·
    exact h.byte z (List.mem_of_mem_drop hz)
theorem own_base {W : World} {B B' : Nat} {v : Value} {Z : List Nat} (h : Own W B v Z) (hb : B' ≤ B) : Own W B' v Z := by
 refine ⟨h.1, ?_⟩
 rcases h.2 with h0 | ⟨g, cap, cur, h1, h2, h3, h4⟩
 ·
  exact .inl h0
 ·
  exact .inr ⟨g, cap, cur, h1, by omega, h3, h4⟩
end Go.Proofs.YtihbgigledmliaaGreat
namespace Go.Proofs.YtihbgigledmliaaGreat
open Go.RowKit
set_option linter.unusedVariables false
theorem wrap_u64_nat (K : Nat) (h : K < 18446744073709551616) : IntKind.u64.wrap (K : Int) = (K : Int) := by
 have e : IntKind.u64.wrap (K : Int) = (K : Int) % 18446744073709551616 := by simp [IntKind.wrap, IntKind.bits, IntKind.signed]
 rw [e]
 omega
def hdr (w : World) (x y z : Value) : World := w.alloc (.cells #[x, y, z] 38)
set_option maxRecDepth 100000 in
set_option maxHeartbeats 4000000 in
/-- journal.Frame: the record's frame, in new memory -/
theorem frame_c (a : Option Addr) (len cap : Nat) (p : List Nat) (w : World) (h : Rd w a len p) (hnil : a = none → cap = 0) (hm : len ≤ 140737488355000) :
  Calls Tryz.prog 43 #[.slice a len cap] w (RetB w.heap.size w (Frm.frameL p)) := by
 have hpl := h.1
 have HP := Lib.hid h
 have HNIL := Lib.hid hnil
 obtain ⟨N4, hN4⟩ : ∃ N4, N4 = Numm.put len 4 := ⟨_, rfl⟩
 have hNl : N4.length = 4 := by rw [hN4, Numm.put_len]
 have HNB := Lib.hid (show ∀ z ∈ N4, z < 256 from by rw [hN4]; exact Numm.put_byte _ _)
 have HPUT0 := Lib.hid ((put_in len 4 w (by omega) (by omega)).mono (RetB.form (Numm.put_byte _ _)))
 rw [← hN4] at HPUT0
 obtain ⟨K, hK⟩ : ∃ K, K = Frm.crcL (N4 ++ p) := ⟨_, rfl⟩
 have HK32 := Lib.hid (show K < 4294967296 from by rw [hK]; exact Frm.crc_lt _)
 have HEND := Lib.hid (show Frm.frameL p = N4 ++ (Numm.put K 4 ++ p) from by rw [hK, hN4, ← hpl]; rfl)
 have HKE := Lib.hid (show 4294967295 - Crcm.reg 4294967295 (N4 ++ p) = K from hK.symm)
 have HNL := Lib.hid hNl
 have HPL := Lib.hid hpl
 clear h hnil hK hN4 hNl hpl
 go_enter Tryz.func43, Tryz.ntmps43
 go_wp2_with fail
 refine HPUT0.out.mono ?_
 rintro e1 w1 ⟨a1, L1, c1, rfl, hl1, hlc1, hcm1, hn1, hr1, ho1, hb1⟩
 have hL1 : L1 = 4 := by rw [← hl1, HNL.out]
 subst hL1
 have HR1 := Lib.hid hr1
 have HN1 := Lib.hid hn1
 have HB1 := Lib.hid hb1
 clear hl1 hlc1 hcm1 hn1 hr1 ho1 hb1 HPUT0
 have HH := Lib.hid (heap_alloc_new w1 (.cells #[.slice a1 4 c1, .slice a1 4 c1, .slice a len cap] 38))
 have HBH := Lib.hid (show Below w1.heap.size w1 (hdr w1 (.slice a1 4 c1) (.slice a1 4 c1) (.slice a len cap)) from (Below.refl _ _).alloc (Nat.le_refl _) _)
 have HCAT : Hid (Calls Tryz.prog 89 #[.slice (some ⟨w1.heap.size, 0, none⟩) 3 3] (hdr w1 (.slice a1 4 c1) (.slice a1 4 c1) (.slice a len cap)) (RetB (hdr w1 (.slice a1 4 c1) (.slice a1 4 c1) (.slice a len cap)).heap.size (hdr w1 (.slice a1 4 c1) (.slice a1 4 c1) (.slice a len cap)) (N4 ++ (N4 ++ p)))) := by
  have hc := concat_c [(a1, 4, c1, N4), (a1, 4, c1, N4), (a, len, cap, p)] w1.heap.size 3 3 (hdr w1 (.slice a1 4 c1) (.slice a1 4 c1) (.slice a len cap)) rfl (by omega) (by simp [hdr]) ?_ ?_ ?_
  ·
   have e : catS [(a1, 4, c1, N4), (a1, 4, c1, N4), (a, len, cap, p)] = N4 ++ (N4 ++ p) := by simp [catS, slz]
   rw [e] at hc
   exact Lib.hid hc
  ·
   intro i s hs
   have hcell : ∀ j, (hdr w1 (.slice a1 4 c1) (.slice a1 4 c1) (.slice a len cap)).cell? ⟨w1.heap.size, j, none⟩ = (#[Value.slice a1 4 c1, .slice a1 4 c1, .slice a len cap])[j]? := fun j => cell_of_row _ _ _ _ _ _ HH.out
   rw [hcell]
   match i, hs with
   | 0, hs => cases hs; rfl
   | 1, hs => cases hs; rfl
   | 2, hs => cases hs; rfl
   | i + 3, hs => simp at hs
  ·
   intro s hs
   have h1 : SlOk (hdr w1 (.slice a1 4 c1) (.slice a1 4 c1) (.slice a len cap)) (a1, 4, c1, N4) := ⟨HR1.out.below HBH.out, HN1.out⟩
   have h2 : SlOk (hdr w1 (.slice a1 4 c1) (.slice a1 4 c1) (.slice a len cap)) (a, len, cap, p) := ⟨(HP.out.below HB1.out).below HBH.out, HNIL.out⟩
   simp only [List.mem_cons, List.not_mem_nil, or_false] at hs
   rcases hs with rfl | rfl | rfl
   ·
    exact h1
   ·
    exact h1
   ·
    exact h2
  ·
   have e : catS [(a1, 4, c1, N4), (a1, 4, c1, N4), (a, len, cap, p)] = N4 ++ (N4 ++ p) := by simp [catS, slz]
   rw [e]
   simp only [List.length_append, HNL.out, HPL.out]
   omega
 go_wp2_with fail
 refine HCAT.out.mono ?_
 rintro e2 w2 ⟨v2, rfl, ho2, hb2⟩
 have hbb : Below w.heap.size w w2 := (HB1.out.trans (HBH.out.mono HB1.out.size)).trans (hb2.mono (by have := HB1.out.size; have := HBH.out.size; omega))
 have hob : Own w2 w.heap.size v2 (N4 ++ (N4 ++ p)) := own_base ho2 (by have := HB1.out.size; have := HBH.out.size; omega)
 have hby : ∀ z ∈ N4 ++ (N4 ++ p), z < 256 := by
  intro z hz
  simp only [List.mem_append] at hz
  rcases hz with hz | hz | hz
  ·
   exact HNB.out z hz
  ·
   exact HNB.out z hz
  ·
   exact HP.out.2.1 z hz
 have hZl : (N4 ++ (N4 ++ p)).length = len + 8 := by simp only [List.length_append, HNL.out, HPL.out]; omega
 have hform : ∃ g c, v2 = .slice (some ⟨g, 0, none⟩) (len + 8) c ∧ len + 8 ≤ c := by
  rcases hob.2 with ⟨_, h0⟩ | ⟨g, c, cur, rfl, _, _, hn, _⟩
  ·
   omega
  ·
   exact ⟨g, c, by rw [hZl], by omega⟩
 obtain ⟨g, c, rfl, hLc⟩ := hform
 obtain ⟨L, hL⟩ : ∃ L, L = len + 8 := ⟨_, rfl⟩
 rw [← hL] at hob hLc hZl ⊢
 have HS0 := Lib.hid (show FrmW w g L c (N4 ++ (N4 ++ p)) w2 from ⟨hob, hZl, hby, hbb⟩)
 have hZ8 : 8 ≤ L := by omega
 have hL4 : 4 ≤ L := by omega
 have hc4 : 4 < c := by omega
 have HS := Lib.hid HS0.out.drew
 have HCRC : Hid (∀ W, FrmW w g L c (N4 ++ (N4 ++ p)) W → Calls Tryz.prog 90 #[.slice (some ⟨g, 4, none⟩) (L - 4) (c - 4)] W fun e w' => e = .returned (.int .u32 (K : Int)) ∧ W = w') := Lib.hid fun W hW => by
  obtain ⟨a', cap', hv, _, _, hrd⟩ := hW.own.rd hW.byte
  rw [hW.len] at hrd hv
  cases hv
  have hd := hrd.drop 4
  rw [show (N4 ++ (N4 ++ p)).drop 4 = N4 ++ p by rw [List.drop_append_of_le_length (by rw [HNL.out]; exact Nat.le_refl _), List.drop_of_length_le (by rw [HNL.out]; exact Nat.le_refl _)]; rfl, Nat.zero_add] at hd
  have hc := crc_c (some ⟨g, 4, none⟩) (L - 4) (c - 4) (N4 ++ p) W hd (by omega)
  rw [HKE.out] at hc
  exact hc
 have HPUT : Hid (∀ W, Calls Tryz.prog 88 #[.int .u64 (K : Int), .int .i64 4] W (RetB W.heap.size W (Numm.put K 4))) := Lib.hid fun W => put_in K 4 W (by have := HK32.out; omega) (by omega)
 clear hob hbb hby hZl hL hLc ho2 hb2 HH HBH HCAT HR1 HN1 HB1
 have hwK : IntKind.u64.wrap (K : Int) = (K : Int) := wrap_u64_nat K (by have := HK32.out; omega)
 go_upto_region 3 with fail
 (try dsimp only [Act.put, sT, sZ, sS])
 refine anyH_begin (S := FrmS w g L c) (by kernel_rfl) ?_
 refine aP 0 (d := 14) (op := .move (.tmp 4)) (.slice (some ⟨g, 0, none⟩) L c) HS.out.held ?_
 simp only [Act.put, sT, sZ, sS]
 refine anyH_pureG 1 (d := 15) (op := .slice 38 (.tmp 14) (some (.const (.int .i64 4))) none none) (gd := none) (.slice (some ⟨g, 4, none⟩) (L - 4) (c - 4)) (by rfl) wantedP (by kernel_rfl) (by kernel_rfl) (by kernel_rfl) (fun _ _ _ h => h) (fun o ho W hW => exec_cut4 hL4 hc4 g _ (by rfl) o ho W) HS.out.held ?_
 simp only [Act.put, sT, sZ, sS]
 refine aP 2 (d := 16) (op := .move (.tmp 4)) (.slice (some ⟨g, 0, none⟩) L c) HS.out.held ?_
 simp only [Act.put, sT, sZ, sS]
 refine anyH_pureG 3 (d := 17) (op := .slice 38 (.tmp 16) (some (.const (.int .i64 4))) none none) (gd := none) (.slice (some ⟨g, 4, none⟩) (L - 4) (c - 4)) (by rfl) wantedP (by kernel_rfl) (by kernel_rfl) (by kernel_rfl) (fun _ _ _ h => h) (fun o ho W hW => exec_cut4 hL4 hc4 g _ (by rfl) o ho W) HS.out.held ?_
 simp only [Act.put, sT, sZ, sS]
 refine anyH_callG 4 (d := some 18) (f := 90) (xs := #[(.tmp 17)]) (ts := #[38]) (gd := none) (vs := #[.slice (some ⟨g, 4, none⟩) (L - 4) (c - 4)]) (by kernel_rfl) (by rfl) wantedP (by go_simp) (by go_simp) (HCRC.out _ HS.out) ?_
 rintro e W1 ⟨rfl, hW1⟩
 subst hW1
 refine ⟨_, rfl, HS.out.held, fun _ => ?_⟩
 simp only [Act.put, sT, sZ, sS]
 refine anyH_pureG 5 (d := 19) (op := .convert 154 131 (.tmp 18)) (gd := none) (.int .u64 (K : Int)) (by rfl) wantedP (by kernel_rfl) (by kernel_rfl) (by kernel_rfl) (fun _ _ _ h => h) (fun o ho W hW => by unfold execOp; simp only [ho]; go_simp; try exact hwK) HS.out.held ?_
 simp only [Act.put, sT, sZ, sS]
 refine anyH_callG 6 (d := some 20) (f := 88) (xs := #[(.tmp 19), (.const (.int .i64 4))]) (ts := #[131, 3]) (gd := none) (vs := #[.int .u64 (K : Int), (.int .i64 4)]) (by kernel_rfl) (by rfl) wantedP (by go_simp) (by go_simp) ((HPUT.out _).mono (RetB.form (Numm.put_byte _ _))) ?_
 rintro e W2 ⟨a2, L2, c2, rfl, hl2, hlc2, hcm2, hn2, hr2, ho2, hb2⟩
 have HR2 := Lib.hid hr2
 have HS2 := Lib.hid (HS.out.step hb2)
 have hL2 : L2 = 4 := by rw [← hl2, Numm.put_len]
 clear hl2 hlc2 hcm2 hn2 hr2 ho2 hb2
 subst hL2
 refine ⟨_, rfl, HS2.out.held, fun _ => ?_⟩
 simp only [Act.put, sT, sZ, sS]
 obtain ⟨W3, hrun, HS3⟩ := frm_copy HS2.out HR2.out hZ8 c2
 refine anyH_runG 7 (d := some 21) (op := .call { callee := .builtin .copy, args := #[(.tmp 15), (.tmp 20)], argTypes := #[38, 38] }) (v := .int .i64 4) (w' := W3) (by kernel_rfl) (by rfl) (fun o ho => ?_) HS3.held ?_
 ·
  exact exec_copy ho (by rfl) (by rfl) (hrun o.type)
 simp only [Act.put, sT, sZ, sS]
 refine wpAnyH_done (by kernel_rfl) ?_ _
 have HF := Lib.hid (show FrmW w g L c (Frm.frameL p) W3 from by
  have h := HS3
  rw [HEND.out]
  have e1 : (N4 ++ (N4 ++ p)).take 4 = N4 := by rw [List.take_append_of_le_length (by rw [HNL.out]; exact Nat.le_refl _), List.take_of_length_le (by rw [HNL.out]; exact Nat.le_refl _)]
  have e2 : (N4 ++ (N4 ++ p)).drop 8 = p := by
   rw [← List.append_assoc, List.drop_append_of_le_length (by simp only [List.length_append, HNL.out]; omega), List.drop_of_length_le (by simp only [List.length_append, HNL.out]; omega)]; rfl
  rw [e1, e2] at h
  exact h)
 clear HS3 hrun HS2 HR2 HS HS0
 go_wp2_with fail
 go_ret
 exact ⟨_, rfl, HF.out.own, HF.out.below⟩
end Go.Proofs.YtihbgigledmliaaGreat
namespace Go.Proofs.YtihbgigledmliaaGreat
open Go.RowKit
set_option linter.unusedVariables false
theorem rd_bytesIn {w : World} {a : Option Addr} {n : Nat} {xs : List Nat} (h : Rd w a n xs) : Lib.BytesIn w a n (xs.map fun z : Nat => (z : Int)) := by
 intro h0
 obtain ⟨b, off, rfl, _, hc⟩ := h.2.2.resolve_left (by omega)
 refine ⟨b, off, rfl, fun i hi => ?_⟩
 rw [hc i hi]
 have hl := h.1
 rw [List.getD_eq_getElem?_getD, List.getD_eq_getElem?_getD, List.getElem?_map, List.getElem?_eq_getElem (by omega)]
 rfl
theorem bytesOf_inj : ∀ (xs ys : List Nat), (∀ z ∈ xs, z < 256) → (∀ z ∈ ys, z < 256) → Lib.bytesOf (xs.map fun z : Nat => (z : Int)) = Lib.bytesOf (ys.map fun z : Nat => (z : Int)) → xs = ys
 | [], [], _, _, _ => rfl
 | [], y :: ys, _, _, h => by simp [Lib.bytesOf] at h
 | x :: xs, [], _, _, h => by simp [Lib.bytesOf] at h
 | x :: xs, y :: ys, h1, h2, h => by
  simp only [Lib.bytesOf, List.map_cons, List.cons.injEq] at h
  obtain ⟨h3, h4⟩ := h
  have hx := h1 x (by simp)
  have hy := h2 y (by simp)
  have e : x = y := by
   have := congrArg UInt8.toNat h3
   simp only [Int.toNat_natCast, UInt8.toNat_ofNat'] at this
   omega
  rw [e, bytesOf_inj xs ys (fun z hz => h1 z (by simp [hz])) (fun z hz => h2 z (by simp [hz])) h4]
theorem equal_c (p1 p2 : Option Addr) (n c m d : Nat) (xs ys : List Nat) (w : World) (h1 : Rd w p1 n xs) (h2 : Rd w p2 m ys) :
  Calls Tryz.prog 127 #[.slice p1 n c, .slice p2 m d] w fun e w' => e = .returned (.bool (decide (xs = ys))) ∧ w' = w := by
 refine (bytes_Equal_all p1 p2 n c m d (xs.map fun z : Nat => (z : Int)) (ys.map fun z : Nat => (z : Int)) w (by rw [List.length_map]; exact h1.1) (by rw [List.length_map]; exact h2.1) (rd_bytesIn h1) (rd_bytesIn h2)).mono ?_
 rintro e w' ⟨rfl, rfl⟩
 refine ⟨?_, rfl⟩
 congr 2
 by_cases hxy : xs = ys
 ·
  subst hxy; simp
 ·
  rw [decide_eq_false hxy, beq_eq_false_iff_ne]
  exact fun h => hxy (bytesOf_inj xs ys h1.2.1 h2.2.1 h)
def FirstR (B : Nat) (w : World) (b : List Nat) (e : Ending) (w' : World) : Prop :=
 match Frm.firstL b with
 | none => e = .returned (.tuple #[.slice none 0 0, .bool false]) ∧ Below B w w'
 | some p => ∃ g c, e = .returned (.tuple #[.slice (some ⟨g, 0, none⟩) (8 + p.length) c, .bool true]) ∧ 8 + p.length ≤ c ∧ c ≤ 9223372036854775807 ∧ Own w' B (.slice (some ⟨g, 0, none⟩) (8 + p.length) c) (Frm.frameL p) ∧ Below B w w'
theorem firstR_none {B : Nat} {w w' : World} {b : List Nat} (h : Frm.firstL b = none) (hb : Below B w w') : FirstR B w b (.returned (.tuple #[.slice none 0 0, .bool false])) w' := by
 unfold FirstR
 rw [h]
 exact ⟨rfl, hb⟩
set_option maxRecDepth 100000 in
set_option maxHeartbeats 4000000 in
theorem first_c (a : Option Addr) (len cap : Nat) (b : List Nat) (w : World) (h : Rd w a len b) (hlc : len ≤ cap) (hm : len ≤ 140737488355328) :
  Calls Tryz.prog 116 #[.slice a len cap] w (FirstR w.heap.size w b) := by
 have hl := h.1
 by_cases h4 : len < 4
 ·
  have HN := Lib.hid (show Frm.firstL b = none from Frm.first_short (by omega))
  have HW := Lib.hid (word_out a len cap 0 w (by omega) (by omega))
  clear h
  go_enter Tryz.func116, Tryz.ntmps116
  go_wp2_with fail
  refine HW.out.mono ?_
  rintro e w1 ⟨rfl, q, rfl⟩
  go_wp2_with fail
  go_ret2
  exact firstR_none HN.out (below_drewN' _ _ _)
 ·
  obtain ⟨n, hn⟩ : ∃ n, n = Frm.wordL b := ⟨_, rfl⟩
  have HW0 : Calls Tryz.prog 126 #[.slice a len cap, .int .i64 0] w (RetD (.tuple #[.int .u32 (n : Int), .bool true]) w) := by
   have := word_c a len cap 0 b w h (by omega) (by omega)
   rw [hn]
   exact this
  have HW := Lib.hid HW0
  have HN32 := Lib.hid (show n < 4294967296 from by
   rw [hn]
   unfold Frm.wordL
   have hb := h.2.1
   have g : ∀ i, b.getD i 0 < 256 := fun i => by
    rw [List.getD_eq_getElem?_getD]
    by_cases hi : i < b.length
    ·
     rw [List.getElem?_eq_getElem hi]; exact hb _ (List.getElem_mem hi)
    ·
     rw [List.getElem?_eq_none (by omega)]; simp
   have g0 := g 0
   have g1 := g 1
   have g2 := g 2
   have g3 := g 3
   simp only [Numm.num, List.foldl_cons, List.foldl_nil]
   omega)
  clear HW0
  by_cases hbig : 1048576 < n
  ·
   have HN := Lib.hid (show Frm.firstL b = none from Frm.first_none fun hk => by have := hk.2.1; omega)
   clear h hn
   have i1 : (n : Int) > 1048576 := by omega
   go_enter Tryz.func116, Tryz.ntmps116
   go_wp2_with fail
   refine HW.out.mono ?_
   rintro e w1 ⟨rfl, q, rfl⟩
   go_wp2_with fail
   go_ret2
   exact firstR_none HN.out (below_drewN' _ _ _)
  ·
   have i1 : ¬ (n : Int) > 1048576 := by omega
   have i2 : wrap64 ((len : Int) - 8) = (len : Int) - 8 := by unfold wrap64; omega
   by_cases hsh : len < n + 8
   ·
    have HN := Lib.hid (show Frm.firstL b = none from Frm.first_none fun hk => by have := hk.2.2.1; omega)
    clear h hn
    have i3 : (len : Int) - 8 < (n : Int) := by omega
    go_enter Tryz.func116, Tryz.ntmps116
    go_wp2_with fail
    refine HW.out.mono ?_
    rintro e w1 ⟨rfl, q, rfl⟩
    go_wp2_with fail
    go_ret2
    exact firstR_none HN.out (below_drewN' _ _ _)
   ·
    have i3 : ¬ (len : Int) - 8 < (n : Int) := by omega
    have hsome : ∃ g o, a = some ⟨g, o, none⟩ := by
     obtain ⟨g, o, e, _⟩ := h.2.2.resolve_left (by omega)
     exact ⟨g, o, e⟩
    obtain ⟨g, o, rfl⟩ := hsome
    obtain ⟨p, hp⟩ : ∃ p, p = (b.drop 8).take n := ⟨_, rfl⟩
    have HRP := Lib.hid (show Rd w (sla (some ⟨g, o, none⟩) cap 8) n p from by
     have := (h.cut cap 8 (by omega) hlc).take n (by omega)
     rw [hp]; exact this)
    have HRB := Lib.hid (show Rd w (some ⟨g, o, none⟩) (8 + n) (b.take (8 + n)) from h.take (8 + n) (by omega))
    have hpl : p.length = n := HRP.out.1
    have HFL := Lib.hid (show Frm.firstL b = if Frm.frameL p = b.take (8 + n) then some p else none from by
     unfold Frm.firstL
     by_cases hf : Frm.frameL p = b.take (8 + n)
     ·
      rw [if_pos hf, if_pos ⟨by omega, by omega, by omega, by rw [← hn, ← hp]; exact hf⟩, ← hn, ← hp]
     ·
      rw [if_neg hf, if_neg fun hk => hf (by have := hk.2.2.2; rw [← hn, ← hp] at this; exact this)])
    have HFB := Lib.hid (Frm.frame_byte p HRP.out.2.1)
    have HFN := Lib.hid (show (Frm.frameL p).length = 8 + n from by rw [Frm.frame_len, hpl])
    have HPL := Lib.hid hpl
    have hwn : wrap64 (8 + (n : Int)) = ((8 + n : Nat) : Int) := by unfold wrap64; omega
    have kH := fun W => run_headAt W (some ⟨g, o, none⟩) len cap (8 + n) (by omega)
    by_cases hc8 : cap = 8
    ·
     subst hc8
     have HFR : Hid (∀ q, Calls Tryz.prog 43 #[.slice (some ⟨g, o, none⟩) n 0] (w.drewN q) (RetB (w.drewN q).heap.size (w.drewN q) (Frm.frameL p))) := Lib.hid fun q => frame_c _ n 0 p _ (show Rd (w.drewN q) (some ⟨g, o, none⟩) n p from by have h := (HRP.out.drewN (n := q)); rw [show sla (some ⟨g, o, none⟩) 8 8 = some ⟨g, o, none⟩ from if_pos rfl] at h; exact h) (by simp) (by omega)
     clear h hn hp hpl hl
     go_enter Tryz.func116, Tryz.ntmps116
     go_wp2_with fail
     refine HW.out.mono ?_
     rintro e w1 ⟨rfl, q, rfl⟩
     go_wp2_with fail
     refine ((HFR.out q).mono (RetB.form HFB.out)).mono ?_
     rintro e w2 ⟨a2, L2, c2, rfl, hl2, hlc2, hcm2, hn2, hr2, ho2, hb2⟩
     have hL2 : L2 = 8 + n := by rw [← hl2, HFN.out]
     subst hL2
     have hsome2 : ∃ g2, a2 = some ⟨g2, 0, none⟩ := by
      rcases ho2.2 with ⟨h0, _⟩ | ⟨g', cp, cur, hv, _⟩
      ·
       have := (Value.slice.inj h0).2.1; omega
      ·
       exact ⟨g', (Value.slice.inj hv).1⟩
     obtain ⟨g2, rfl⟩ := hsome2
     have HO2 := Lib.hid ho2
     have HB2 := Lib.hid ((below_drewN' w.heap.size w q).trans hb2)
     have HEQ := Lib.hid (equal_c (some ⟨g2, 0, none⟩) (some ⟨g, o, none⟩) (8 + n) c2 (8 + n) 8 _ _ w2 hr2 (HRB.out.drewN.below hb2))
     clear hl2 hn2 hr2 ho2 hb2 HRP HRB HFR HW HFB HFN
     by_cases hf : Frm.frameL p = b.take (8 + n)
     ·
      have HFS := Lib.hid (show Frm.firstL b = some p from by rw [HFL.out, if_pos hf])
      rw [decide_eq_true hf] at HEQ
      clear hf HFL
      go_wp2_with fail
      refine HEQ.out.mono ?_
      rintro e w3 ⟨rfl, rfl⟩
      go_wp2_with fail
      go_ret2
      unfold FirstR
      rw [HFS.out]
      simp only
      rw [HPL.out]
      exact ⟨g2, c2, rfl, hlc2, hcm2, HO2.out, HB2.out⟩
     ·
      have HFS := Lib.hid (show Frm.firstL b = none from by rw [HFL.out, if_neg hf])
      rw [decide_eq_false hf] at HEQ
      clear hf HFL
      go_wp2_with fail
      refine HEQ.out.mono ?_
      rintro e w3 ⟨rfl, rfl⟩
      go_wp2_with fail
      go_ret2
      exact firstR_none HFS.out HB2.out
    ·
     have hc9 : 8 < cap := by omega
     have HFR : Hid (∀ q, Calls Tryz.prog 43 #[.slice (some ⟨g, o + 8, none⟩) n (cap - 8)] (w.drewN q) (RetB (w.drewN q).heap.size (w.drewN q) (Frm.frameL p))) := Lib.hid fun q => frame_c _ n (cap - 8) p _ (show Rd (w.drewN q) (some ⟨g, o + 8, none⟩) n p from by have h := (HRP.out.drewN (n := q)); rw [show sla (some ⟨g, o, none⟩) cap 8 = some ⟨g, o + 8, none⟩ from by unfold sla; rw [if_neg hc8]; rfl] at h; exact h) (by simp) (by omega)
     clear h hn hp hpl hl
     go_enter Tryz.func116, Tryz.ntmps116
     go_wp2_with fail
     refine HW.out.mono ?_
     rintro e w1 ⟨rfl, q, rfl⟩
     go_wp2_with fail
     refine ((HFR.out q).mono (RetB.form HFB.out)).mono ?_
     rintro e w2 ⟨a2, L2, c2, rfl, hl2, hlc2, hcm2, hn2, hr2, ho2, hb2⟩
     have hL2 : L2 = 8 + n := by rw [← hl2, HFN.out]
     subst hL2
     have hsome2 : ∃ g2, a2 = some ⟨g2, 0, none⟩ := by
      rcases ho2.2 with ⟨h0, _⟩ | ⟨g', cp, cur, hv, _⟩
      ·
       have := (Value.slice.inj h0).2.1; omega
      ·
       exact ⟨g', (Value.slice.inj hv).1⟩
     obtain ⟨g2, rfl⟩ := hsome2
     have HO2 := Lib.hid ho2
     have HB2 := Lib.hid ((below_drewN' w.heap.size w q).trans hb2)
     have HEQ := Lib.hid (equal_c (some ⟨g2, 0, none⟩) (some ⟨g, o, none⟩) (8 + n) c2 (8 + n) cap _ _ w2 hr2 (HRB.out.drewN.below hb2))
     clear hl2 hn2 hr2 ho2 hb2 HRP HRB HFR HW HFB HFN
     by_cases hf : Frm.frameL p = b.take (8 + n)
     ·
      have HFS := Lib.hid (show Frm.firstL b = some p from by rw [HFL.out, if_pos hf])
      rw [decide_eq_true hf] at HEQ
      clear hf HFL
      go_wp2_with fail
      refine HEQ.out.mono ?_
      rintro e w3 ⟨rfl, rfl⟩
      go_wp2_with fail
      go_ret2
      unfold FirstR
      rw [HFS.out]
      simp only
      rw [HPL.out]
      exact ⟨g2, c2, rfl, hlc2, hcm2, HO2.out, HB2.out⟩
     ·
      have HFS := Lib.hid (show Frm.firstL b = none from by rw [HFL.out, if_neg hf])
      rw [decide_eq_false hf] at HEQ
      clear hf HFL
      go_wp2_with fail
      refine HEQ.out.mono ?_
      rintro e w3 ⟨rfl, rfl⟩
      go_wp2_with fail
      go_ret2
      exact firstR_none HFS.out HB2.out
end Go.Proofs.YtihbgigledmliaaGreat
namespace Go.Proofs.YtihbgigledmliaaGreat
open Go.RowKit
set_option linter.unusedVariables false
theorem info_slv : (Tryz.prog.info? 38).map (fun i => (i.zero, i.size, i.bytes)) = some (some (.slice none 0 0), 1, 24) := by kernel_rfl
/-- a row of values that the call owns -/
abbrev OwnV (w : World) (B : Nat) (v : Value) (vs : List Value) : Prop := w.ownsRow B 38 1 v vs.length vs
theorem OwnV.nil (w : World) (B : Nat) : OwnV w B (.slice none 0 0) [] := World.ownsRow_nil _ _ _ _
theorem OwnV.keep {w w' : World} {B : Nat} {v : Value} {vs : List Value} (h : OwnV w B v vs) (hb : Below w.heap.size w w') : OwnV w' B v vs := by
 refine ⟨h.1, ?_⟩
 rcases h.2 with h0 | ⟨g, cap, cur, h1, h2, h3, h4⟩
 ·
  exact .inl h0
 ·
  exact .inr ⟨g, cap, cur, h1, h2, (hb.block g (Array.getElem?_eq_some_iff.1 h3).1).trans h3, h4⟩
theorem OwnV.form {w : World} {B : Nat} {v : Value} {vs : List Value} (h : OwnV w B v vs) : ∃ a n c, v = .slice a n c ∧ vs.length = n ∧ n ≤ c ∧ c ≤ 9223372036854775807 ∧ (n = 0 ∨ ∃ g, a = some ⟨g, 0, none⟩ ∧ B ≤ g ∧ g < w.heap.size ∧ ∀ i u, vs[i]? = some u → w.cell? ⟨g, i, none⟩ = some u) := by
 have h' := h
 rcases h.2 with ⟨rfl, h0⟩ | ⟨g, c, cur, rfl, hb, hh, hn, hm, hs, ht⟩
 ·
  exact ⟨none, 0, 0, rfl, h0, Nat.le_refl _, by omega, .inl rfl⟩
 ·
  refine ⟨_, _, c, rfl, rfl, hn, hm, .inr ⟨g, rfl, hb, (Array.getElem?_eq_some_iff.1 hh).1, fun i u hu => ?_⟩⟩
  have hi := (List.getElem?_eq_some_iff.1 hu).1
  rw [cell_of_row w g i cur _ _ hh, ← Array.getElem?_toList]
  rw [← ht, List.getElem?_take, if_pos (by omega)] at hu
  exact hu
/-- the block of a row of slices holds no bytes -/
theorem OwnV.other {w : World} {B : Nat} {v : Value} {vs : List Value} (h : OwnV w B v vs) {g : Nat} {cur : Array Value} {fr : Nat × Nat} (hg : w.heap[g]? = some (.cells cur 5 fr)) : some g ≠ v.ownBlock := by
 intro he
 rcases h.2 with ⟨rfl, _⟩ | ⟨g', cap, cur', rfl, _, hh, _⟩
 ·
  cases he
 ·
  have e : g = g' := by simpa [Value.ownBlock] using he
  subst e
  rw [hh] at hg
  simp only [Option.some.injEq, Obj.cells.injEq] at hg
  exact absurd hg.2.1 (by decide)
theorem wpList_pushV {w : World} {ops : Array Oper} {rest : List Oper} {o : Oper} {a : Act} {Q : Exit → Act → World → Prop} (hgd : o.guard = none) (s x : Operand)
  (ho : o.op = .call { callee := .builtin .append, args := #[s, x], argTypes := #[32, 32] })
  (B : Nat) (v : Value) (vs : List Value) (y : Value) (hy : y.oneCell' = true) (hs : a.eval s = v) (hown : OwnV w B v vs) (hB : B ≤ w.heap.size) (hx : a.eval x = .slice (some ⟨w.heap.size, 0, none⟩) 1 1)
  (hlen : vs.length + 1 ≤ 1000000000)
  (h : ∀ v' w', OwnV w' B v' (vs ++ [y]) → (∀ (g : Nat) (cur : Array Value) (fr : Nat × Nat), w.heap[g]? = some (.cells cur 5 fr) → w'.heap[g]? = some (.cells cur 5 fr)) → Below B w w' → wpList Tryz.prog ops Q rest (a.put o.dst v') w') :
  wpList Tryz.prog ops Q (o :: rest) a (w.alloc (.cells #[y] 38)) := by
 obtain ⟨i0, hi, hz0, hz1, hz2⟩ := info_parts info_slv
 have hal : OwnV (w.alloc (.cells #[y] 38)) B v vs := World.ownsRow.alloc hown _
 refine wpList_append_own _ hgd s x 32 ho B 38 i0 (.slice none 0 0) 1 24 Tryz.underlying32 hi hz0 hz1 hz2 rfl (by decide) v vs.length vs hs hal ⟨w.heap.size, 0, none⟩ 1 1 [y] hx rfl ?_ ?_ (by unfold maxLen; omega) (by omega) (by simp; omega) ?_
 ·
  intro j u hj
  rw [Addr.add_mid, Nat.zero_add, cell_of_row _ _ _ _ _ _ (heap_new _ _)]
  simpa using hj
 ·
  intro u hu
  simp only [List.mem_singleton] at hu
  subst hu; exact hy
 ·
  intro v' w' h1 h2 _
  refine h v' w' ?_ ?_ ?_
  ·
   have e : (vs ++ [y]).length = vs.length + 1 := by simp
   unfold OwnV
   rw [e]
   exact h1
  ·
   intro g cur fr hg
   have hg2 : (w.alloc (.cells #[y] 38)).heap[g]? = some (.cells cur 5 fr) := by
    rw [← hg]
    exact ((Below.refl w.heap.size w).alloc (Nat.le_refl _) _).block g (Array.getElem?_eq_some_iff.1 hg).1
   rw [h2.block g (Array.getElem?_eq_some_iff.1 hg2).1 (hal.other hg2)]
   exact hg2
  ·
   exact ((Below.refl B w).alloc hB _).grown h2 (by simp only [World.alloc, Array.size_push]; omega) fun k hk => (World.ownsRow.lt hown k hk).1
/-- a record in block g, eight bytes behind its beginning -/
def Rc (W : World) (g : Nat) (v : Value) (p : List Nat) : Prop :=
 ∃ c cur, v = .slice (sla (some ⟨g, 0, none⟩) c 8) p.length (c - 8) ∧ W.heap[g]? = some (.cells cur 5 (0, 0)) ∧ 8 + p.length ≤ c ∧ c ≤ 9223372036854775807 ∧ cur.size = c ∧ (cur.toList.drop 8).take p.length = cellsOf p ∧ ∀ z ∈ p, z < 256
structure Rcs (B : Nat) (W : World) (vs : List Value) (gs : List Nat) (ps : List (List Nat)) : Prop where
 lv : vs.length = ps.length
 lg : gs.length = ps.length
 nodup : gs.Nodup
 rc : ∀ (i : Nat) (v : Value) (g : Nat) (p : List Nat), vs[i]? = some v → gs[i]? = some g → ps[i]? = some p → B ≤ g ∧ Rc W g v p
theorem Rc.lt {W : World} {g : Nat} {v : Value} {p : List Nat} (h : Rc W g v p) : g < W.heap.size := by
 obtain ⟨c, cur, _, hh, _⟩ := h
 exact (Array.getElem?_eq_some_iff.1 hh).1
theorem Rcs.lt {B : Nat} {W : World} {vs : List Value} {gs : List Nat} {ps : List (List Nat)} (h : Rcs B W vs gs ps) : ∀ g ∈ gs, B ≤ g ∧ g < W.heap.size := by
 intro g hg
 obtain ⟨i, hi⟩ := List.mem_iff_getElem?.1 hg
 have hl := (List.getElem?_eq_some_iff.1 hi).1
 have h1 := h.lv
 have h2 := h.lg
 obtain ⟨h3, h4⟩ := h.rc i vs[i] g ps[i] (List.getElem?_eq_getElem (by omega)) hi (List.getElem?_eq_getElem (by omega))
 exact ⟨h3, h4.lt⟩
theorem Rcs.nil (B : Nat) (W : World) : Rcs B W [] [] [] := ⟨rfl, rfl, List.nodup_nil, fun i v g p h => by simp at h⟩
/-- blocks of bytes that stand -/
def KeepsB (W W' : World) : Prop := ∀ (g : Nat) (cur : Array Value) (fr : Nat × Nat), W.heap[g]? = some (.cells cur 5 fr) → W'.heap[g]? = some (.cells cur 5 fr)
theorem KeepsB.of {W W' : World} (hb : Below W.heap.size W W') : KeepsB W W' := fun g cur fr h => (hb.block g (Array.getElem?_eq_some_iff.1 h).1).trans h
theorem Rc.keep {W W' : World} {g : Nat} {v : Value} {p : List Nat} (h : Rc W g v p) (hk : KeepsB W W') : Rc W' g v p := by
 obtain ⟨c, cur, h1, h2, h3⟩ := h
 exact ⟨c, cur, h1, hk g cur _ h2, h3⟩
theorem Rcs.keep {B : Nat} {W W' : World} {vs : List Value} {gs : List Nat} {ps : List (List Nat)} (h : Rcs B W vs gs ps) (hk : KeepsB W W') : Rcs B W' vs gs ps :=
 ⟨h.lv, h.lg, h.nodup, fun i v g p a b c => ⟨(h.rc i v g p a b c).1, (h.rc i v g p a b c).2.keep hk⟩⟩
theorem Rcs.push {B : Nat} {W : World} {vs : List Value} {gs : List Nat} {ps : List (List Nat)} (h : Rcs B W vs gs ps) {g : Nat} {v : Value} {p : List Nat} (hg : g ∉ gs) (hB : B ≤ g) (hr : Rc W g v p) : Rcs B W (vs ++ [v]) (gs ++ [g]) (ps ++ [p]) where
 lv := by simp [h.lv]
 lg := by simp [h.lg]
 nodup := by
  rw [List.nodup_append]
  refine ⟨h.nodup, by simp, ?_⟩
  intro x hx y hy e
  simp only [List.mem_singleton] at hy
  rw [e, hy] at hx
  exact hg hx
 rc := fun i u k q hu hk hq => by
  have h1 := h.lv
  have h2 := h.lg
  by_cases hi : i < ps.length
  ·
   rw [List.getElem?_append_left (by omega)] at hu hk hq
   exact h.rc i u k q hu hk hq
  ·
   rw [List.getElem?_append_right (by omega)] at hu hk hq
   have hz : i - ps.length = 0 := by
    have := (List.getElem?_eq_some_iff.1 hq).1
    simp at this
    omega
   rw [h1, hz] at hu
   rw [h2, hz] at hk
   rw [hz] at hq
   simp at hu hk hq
   subst hu hk hq
   exact ⟨hB, hr⟩
theorem rc_of {W : World} {B g c : Nat} {p : List Nat} (h : Own W B (.slice (some ⟨g, 0, none⟩) (8 + p.length) c) (Frm.frameL p)) (hp : ∀ z ∈ p, z < 256) : B ≤ g ∧ Rc W g (.slice (sla (some ⟨g, 0, none⟩) c 8) p.length (c - 8)) p := by
 obtain ⟨cur, hb, hh, hn, hm, hs, ht⟩ := own_open h (Frm.frame_len p)
 refine ⟨hb, c, cur, rfl, hh, hn, hm, hs, ?_, hp⟩
 have := congrArg (List.drop 8) ht
 rw [List.drop_take, show 8 + p.length - 8 = p.length by omega] at this
 rw [this]
 have hd := Frm.frame_drop p
 unfold cellsOf
 rw [← List.map_drop, hd]
/-- a record's bytes can be read -/
theorem Rc.rd {W : World} {g : Nat} {v : Value} {p : List Nat} (h : Rc W g v p) : ∃ a c, v = .slice a p.length c ∧ p.length ≤ c ∧ c ≤ 9223372036854775807 ∧ (a = none → c = 0) ∧ Rd W a p.length p ∧ (0 < p.length → a = some ⟨g, 8, none⟩) := by
 obtain ⟨c, cur, rfl, hh, hn, hm, hs, ht, hb⟩ := h
 have ha : 0 < p.length → sla (some ⟨g, 0, none⟩) c 8 = some ⟨g, 8, none⟩ := fun h0 => by unfold sla; rw [if_neg (by omega)]; rfl
 refine ⟨_, _, rfl, by omega, by omega, fun e => ?_, ⟨rfl, hb, ?_⟩, ha⟩
 ·
  unfold sla at e
  split at e <;> simp at e
 ·
  by_cases h0 : p.length = 0
  ·
   exact .inl h0
  ·
   refine .inr ⟨g, 8, ha (by omega), (Array.getElem?_eq_some_iff.1 hh).1, fun i hi => ?_⟩
   rw [cell_of_row W g (8 + i) cur _ _ hh, ← Array.getElem?_toList]
   have e := congrArg (fun l => l[i]?) ht
   simp only [List.getElem?_take, if_pos hi, List.getElem?_drop] at e
   rw [e]
   exact cellsOf_get p i hi
end Go.Proofs.YtihbgigledmliaaGreat
namespace Go.Proofs.YtihbgigledmliaaGreat
open Go.ChangeShapes Go.WideShapes Go.ChangeAt Go.RowKit Go.Deep
set_option linter.unusedVariables false
def SlB (W : World) (s : Sl) : Prop := Rd W s.1 s.2.1 s.2.2.2 ∧ (s.1 = none → s.2.2.1 = 0) ∧ s.2.1 ≤ s.2.2.1 ∧ s.2.2.1 ≤ 140737488351232
def BssIn (W : World) (a : Option Addr) (len cap : Nat) (L : List Sl) : Prop :=
 L.length = len ∧ (a = none → cap = 0) ∧ len ≤ cap ∧ cap ≤ 9223372036854775807 ∧ (len = 0 ∨ ∃ b off, a = some ⟨b, off, none⟩ ∧ b < W.heap.size ∧ ∀ i s, L[i]? = some s → W.cell? ⟨b, off + i, none⟩ = some (slv s)) ∧ ∀ s ∈ L, SlB W s
theorem weightsAll_mem {H : Type} {P : Program} {e : TypeId} : ∀ {l : List (DataW H)} {d : DataW H} {n : Nat}, d ∈ l → n ∈ d.weights P e → n ∈ DataW.weightsAll P e l
 | x :: l, d, n, hd, hn => by
  simp only [DataW.weightsAll, List.mem_append]
  rcases List.mem_cons.1 hd with rfl | hd
  ·
   exact .inl hn
  ·
   exact .inr (weightsAll_mem hd hn)
theorem cells_sl : Tryz.prog.cellsOf 38 = 1 := by kernel_rfl
theorem bytes_u8 : Tryz.prog.bytesOf 5 = 1 := by kernel_rfl
set_option maxRecDepth 100000 in
theorem open_bytess {H : Type} {enc : TypeId × Value → H} {W : World} {base : Nat} {held : Bool} {d : DataW H} {p : List MemPlace} {a : Option Addr} {len cap : Nat}
  (h : DataW.Trod enc Tryz.prog W base (fun _ => true) held 32 (.slice a len cap) d p) (hsz : ∀ n ∈ DataW.weights Tryz.prog 32 d, n ≤ reachBytes) : ∃ L, BssIn W a len cap L := by
 obtain ⟨fuel, hf⟩ := h
 rcases open_slice Tryz.underlying32 hf with ⟨hcs, _⟩ | ⟨x, l, c, m, n, D, Pl, hcs, _, hl, hcm, hm, hx, hi⟩
 ·
  simp [Value.cells] at hcs
  obtain ⟨rfl, rfl, rfl⟩ := hcs
  exact ⟨[], rfl, fun _ => rfl, Nat.le_refl _, by omega, .inl rfl, by simp⟩
 ·
  simp [Value.cells] at hcs
  obtain ⟨rfl, rfl, rfl⟩ := hcs
  simp only [if_true] at hm
  subst hm
  have hd := (Prod.mk.inj hx).1
  rw [cells_sl] at hi
  unfold maxLen at hcm
  obtain ⟨Z, hZ⟩ := choose_lt (α := Sl) (n := len) (p := fun i s => SlB W s ∧ W.cells? base (x.add (i * 1)) 1 = some [slv s]) (fun i him => by
   obtain ⟨cs', h1, h2⟩ := hi i (by omega)
   rcases open_ints Tryz.underlying38 Tryz.underlying5 (by kernel_rfl) h2 with ⟨e, _⟩ | ⟨x', l', c', zs, e, _, hl', hm', hz, hx', hcell, hwz⟩
   ·
    exact ⟨(none, 0, 0, []), ⟨⟨rfl, by simp, .inl rfl⟩, fun _ => rfl, Nat.le_refl _, Nat.zero_le _⟩, by rw [h1, e]; rfl⟩
   ·
    simp only [if_true] at hz
    have hdi := (Prod.mk.inj hx').1
    have hw : (lits .u8 (zs.take l') : List (DataW H)).length + (lits .u8 (zs.drop l') : List (DataW H)).length ≤ reachBytes := by
     refine hsz _ ?_
     rw [hd]
     simp only [DataW.weights, Tryz.underlying32]
     refine List.mem_cons_of_mem _ (List.mem_append_left _ (weightsAll_mem (d := D i) (List.mem_map.2 ⟨i, by simpa using him, rfl⟩) ?_))
     rw [hdi]
     simp only [DataW.weights, Tryz.underlying38, bytes_u8, Nat.mul_one]
     exact List.mem_cons_self
    simp only [lits, List.length_map, List.length_take, List.length_drop, reachBytes] at hw
    obtain ⟨b1, b2, b3, b4⟩ := bytesIn_some hl' hz (by omega) hcell hwz
    exact ⟨(some x', l', c', _), ⟨b1, b2, b3, b4⟩, by rw [h1, e]; rfl⟩)
  refine ⟨(List.range len).map Z, by simp, by simp, hl, by omega, ?_, fun s hs => ?_⟩
  ·
   by_cases h0 : len = 0
   ·
    exact .inl h0
   ·
    have hat : ∀ i, i < len → W.cell? ((x.add (i * 1)).add 0) = some (slv (Z i)) := fun i him => by
     obtain ⟨_, _, hat⟩ := World.cells?_some (hZ i him).2
     exact hat 0 (by omega)
    have hz := hat 0 (by omega)
    obtain ⟨b, off, spot⟩ := x
    have hspot : spot = none := by simpa [Addr.add] using World.cell?_spot hz
    subst hspot
    rw [show ((⟨b, off, none⟩ : Addr).add (0 * 1)).add 0 = ⟨b, off, none⟩ by simp [Addr.add]] at hz
    refine .inr ⟨b, off, rfl, World.block_lt_of_cell? W ⟨b, off, none⟩ hz, fun i s hs => ?_⟩
    have hil : i < len := by
     have := (List.getElem?_eq_some_iff.1 hs).1
     simpa using this
    rw [List.getElem?_map, List.getElem?_range hil] at hs
    simp only [Option.map_some, Option.some.injEq] at hs
    have h1 := hat i hil
    rw [Addr.add_mid, Addr.add_mid, Nat.mul_one, Nat.add_zero] at h1
    rw [h1, hs]
  ·
   obtain ⟨i, hi, rfl⟩ := List.mem_map.1 hs
   exact (hZ i (by simpa using hi)).1
/-- append(s, p...) of bytes, and what it may write -/
theorem wpList_catG {w : World} {ops : Array Oper} {rest : List Oper} {o : Oper} {a : Act} {Q : Exit → Act → World → Prop} (hgd : o.guard = none) (s x : Operand)
  (ho : o.op = .call { callee := .builtin .append, args := #[s, x], argTypes := #[38, 38] })
  (B : Nat) (v : Value) (zs ys : List Nat) (hs : a.eval s = v) (hown : Own w B v zs) (hB : B ≤ w.heap.size) (ad : Option Addr) (len cap : Nat) (hx : a.eval x = .slice ad len cap)
  (hrd : Rd w ad len ys) (h0 : 0 < len) (hlen : zs.length + ys.length ≤ 140737488355328)
  (h : ∀ v' w', Own w' B v' (zs ++ ys) → w.grownBy w' v.ownBlock → wpList Tryz.prog ops Q rest (a.put o.dst v') w') :
  wpList Tryz.prog ops Q (o :: rest) a w := by
 obtain ⟨i0, hi, hz0, hz1, hz2⟩ := info_parts byteInfo
 obtain ⟨hl, hz, hc⟩ := hrd
 obtain ⟨b, off, rfl, hb, hcell⟩ := hc.resolve_left (by omega)
 refine wpList_append_own _ hgd s x 38 ho B 5 i0 (.int .u8 0) 1 1 Tryz.underlying38 hi hz0 hz1 hz2 rfl (by decide) v zs.length (cellsOf zs) hs hown ⟨b, off, none⟩ len cap (cellsOf ys) hx (by rw [cellsOf_length, hl, Nat.mul_one]) ?_ (cellsOf_one _) (by unfold maxLen; omega) (by omega) hB ?_
 ·
  intro j u hj
  have hjl : j < ys.length := by
   have := (List.getElem?_eq_some_iff.1 hj).1
   rwa [cellsOf_length] at this
  rw [cellsOf_get ys j hjl] at hj
  cases hj
  rw [Addr.add_mid]
  exact hcell j (by omega)
 ·
  intro v' w' h1 h2 _
  refine h v' w' ?_ h2
  have e : (zs ++ ys).length = zs.length + len := by rw [List.length_append, hl]
  unfold Own
  rw [e, cellsOf_append]
  exact h1
end Go.Proofs.YtihbgigledmliaaGreat
namespace Go.Proofs.YtihbgigledmliaaGreat.Frm
set_option linter.unusedVariables false
def flatF (ps : List (List Nat)) : List Nat := (ps.map frameL).flatten
theorem flat_app (a b : List (List Nat)) : flatF (a ++ b) = flatF a ++ flatF b := by simp [flatF]
theorem flat_one (p : List Nat) : flatF [p] = frameL p := by simp [flatF]
theorem flat_snoc (ps : List (List Nat)) (k : Nat) (p : List Nat) (h : ps[k]? = some p) : flatF (ps.take (k + 1)) = flatF (ps.take k) ++ frameL p := by
 rw [List.take_add_one, h, flat_app]
 simp [flatF]
theorem flat_byte (ps : List (List Nat)) (h : ∀ p ∈ ps, ∀ z ∈ p, z < 256) : ∀ z ∈ flatF ps, z < 256 := by
 intro z hz
 unfold flatF at hz
 obtain ⟨l, hl, hz⟩ := List.mem_flatten.1 hz
 obtain ⟨p, hp, rfl⟩ := List.mem_map.1 hl
 exact frame_byte p (h p hp) z hz
theorem scan_cnt : ∀ (n : Nat) (b : List Nat), b.length ≤ n → 8 * (scanL b).1.length ≤ b.length
 | 0, b, hn => by rw [scan_none (first_short (by omega))]; exact Nat.zero_le _
 | n + 1, b, hn => by
  cases hf : firstL b with
  | none => rw [scan_none hf]; exact Nat.zero_le _
  | some p =>
   obtain ⟨h1, _⟩ := first_some hf
   rw [scan_some hf]
   have := scan_cnt n (b.drop (8 + p.length)) (by rw [List.length_drop]; omega)
   rw [List.length_drop] at this
   simp only [List.length_cons]
   omega
end Go.Proofs.YtihbgigledmliaaGreat.Frm
namespace Go.Proofs.YtihbgigledmliaaGreat
open Go.RowKit
set_option linter.unusedVariables false
theorem sizeOf_sl (W : World) : (Go.sizeOf 38).run Tryz.prog W = .ok 1 W := by kernel_rfl
theorem und_bss : Tryz.prog.underlying 32 = some (.slice (Tryz.prog.elem 32)) := by
 rw [show Tryz.prog.elem 32 = 38 by kernel_rfl]; exact Tryz.underlying32
theorem run_vheadAt (W : World) (a : Option Addr) (len cap k : Nat) (hk : k ≤ cap) :
  (Instr.sliceAt 32 (.slice a len cap) none (some (.int .i64 (k : Int))) none).run Tryz.prog W = .ok (.slice a k cap) W := by
 rw [run_sliceAt_slice W _ _ _ _ _ und_bss, run_slice_h W _ a len cap und_bss .i64 (k : Int) (by omega) (by omega), show Tryz.prog.elem 32 = 38 by kernel_rfl, sizeOf_sl]
 simp [Result.andThen, sliced, add_zero']
def SmallR (len : Nat) (L : List Sl) (w : World) (e : Ending) (w' : World) : Prop := ∃ r : Bool, e = .returned (.bool r) ∧ w' = w ∧ (r = true → len ≤ 12 ∧ ∀ s ∈ L, s.2.1 ≤ 400)
set_option maxRecDepth 100000 in
set_option maxHeartbeats 2000000 in
theorem small_c (a : Option Addr) (len cap : Nat) (L : List Sl) (w : World) (h : BssIn w a len cap L) :
  Calls Tryz.prog 10 #[.slice a len cap] w (SmallR len L w) := by
 obtain ⟨hl, hnil, hlc, hcm, hh, hs⟩ := h
 have HL := Lib.hid hl
 have HH := Lib.hid hh
 have HS := Lib.hid hs
 clear hl hh hs hnil
 by_cases h12 : len ≤ 12
 ·
  have i1 : (len : Int) ≤ 12 := by omega
  have kH := fun W => run_vheadAt W a len cap len hlc
  go_enter Tryz.func10, Tryz.ntmps10
  go_wp2_with fail
  go_loopw [3, 12] (fun v i wr => ∃ k s : Nat, k ≤ len ∧ i = .int .i64 k ∧ v = .int .i64 s ∧ s ≤ 400 * k ∧ Hid (∀ (j : Nat) (x : Sl), j < k → L[j]? = some x → x.2.1 ≤ 400) ∧ w = wr) (fun _ i _ => len - (intOf i).toNat)
  case atStart => exact ⟨0, 0, Nat.zero_le _, rfl, rfl, by omega, Lib.hid fun j x hj => absurd hj (Nat.not_lt_zero _), rfl⟩
  case round =>
   obtain ⟨k, s, hk, rfl, rfl, hsk, HJ, rfl⟩ := hrel
   by_cases hkl : k < len
   ·
    obtain ⟨x, hx⟩ : ∃ x, L[k]? = some x := ⟨_, List.getElem?_eq_getElem (by rw [HL.out]; exact hkl)⟩
    obtain ⟨b, off, rfl, hblt, hcells⟩ := HH.out.resolve_left (by omega)
    have hc := hcells k x hx
    have HX := Lib.hid hx
    have hn63 := (HS.out x (List.mem_of_getElem? hx)).2.2
    obtain ⟨xa, n, xc, xz⟩ := x
    simp only [slv] at hc
    simp only at hn63
    obtain ⟨hn1, hn2⟩ := hn63
    clear hcells hx
    by_cases hn : n ≤ 400
    ·
     have i2 : ¬ (n : Int) > 400 := by omega
     have i3 : s + n ≤ 8000 := by omega
     have HJ2 := Lib.hid (show ∀ (j : Nat) (x : Sl), j < k + 1 → L[j]? = some x → x.2.1 ≤ 400 from fun j x hj hjx => by
      by_cases e : j = k
      ·
       subst e
       rw [HX.out] at hjx
       cases hjx
       exact hn
      ·
       exact HJ.out j x (by omega) hjx)
     clear HJ HX
     go_wp2_with fail
     go_roundw
     case rel => exact ⟨k + 1, s + n, by omega, by go_num, by go_num, by omega, HJ2, by first | trivial | rfl⟩
     case measure => simp [intOf]; omega
    ·
     have i2 : (n : Int) > 400 := by omega
     go_wp2_with fail
     go_ret
     exact ⟨false, rfl, rfl, fun e => by cases e⟩
   ·
    have HE := Lib.hid (show ∀ s ∈ L, s.2.1 ≤ 400 from fun x hx => by
     obtain ⟨j, hj⟩ := List.mem_iff_getElem?.1 hx
     have h1 := (List.getElem?_eq_some_iff.1 hj).1
     exact HJ.out j x (by rw [HL.out] at h1; omega) hj)
    clear HJ
    go_wp2_with fail
    go_ret
    exact ⟨_, rfl, rfl, fun _ => ⟨h12, HE.out⟩⟩
 ·
  have i1 : ¬ (len : Int) ≤ 12 := by omega
  have kH : ∀ W : World, (Instr.sliceAt 32 (.slice a len cap) none (some (.int .i64 12)) none).run Tryz.prog W = .ok (.slice a 12 cap) W := fun W => run_vheadAt W a len cap 12 (by omega)
  go_enter Tryz.func10, Tryz.ntmps10
  go_wp2_with fail
  go_loopw [3, 12] (fun v i wr => ∃ k s : Nat, k ≤ 12 ∧ i = .int .i64 k ∧ v = .int .i64 s ∧ s ≤ 400 * k ∧ w = wr) (fun _ i _ => 12 - (intOf i).toNat)
  case atStart => exact ⟨0, 0, Nat.zero_le _, rfl, rfl, by omega, rfl⟩
  case round =>
   obtain ⟨k, s, hk, rfl, rfl, hsk, rfl⟩ := hrel
   by_cases hkl : k < 12
   ·
    obtain ⟨x, hx⟩ : ∃ x, L[k]? = some x := ⟨_, List.getElem?_eq_getElem (by rw [HL.out]; omega)⟩
    obtain ⟨b, off, rfl, hblt, hcells⟩ := HH.out.resolve_left (by omega)
    have hc := hcells k x hx
    have hn63 := (HS.out x (List.mem_of_getElem? hx)).2.2
    obtain ⟨xa, n, xc, xz⟩ := x
    simp only [slv] at hc
    simp only at hn63
    obtain ⟨hn1, hn2⟩ := hn63
    clear hcells hx
    by_cases hn : n ≤ 400
    ·
     have i2 : ¬ (n : Int) > 400 := by omega
     have i3 : s + n ≤ 8000 := by omega
     go_wp2_with fail
     go_roundw
     case rel => exact ⟨k + 1, s + n, by omega, by go_num, by go_num, by omega, by first | trivial | rfl⟩
     case measure => simp [intOf]; omega
    ·
     have i2 : (n : Int) > 400 := by omega
     go_wp2_with fail
     go_ret
     exact ⟨false, rfl, rfl, fun e => by cases e⟩
   ·
    go_wp2_with fail
    go_ret
    exact ⟨false, rfl, rfl, fun e => by cases e⟩
end Go.Proofs.YtihbgigledmliaaGreat
namespace Go.Proofs.YtihbgigledmliaaGreat
open Go.RowKit
set_option linter.unusedVariables false
/-- a row of slices that can be read -/
def RowRd (w : World) (a : Option Addr) (n : Nat) (ps : List (List Nat)) : Prop :=
 ps.length = n ∧ (n = 0 ∨ ∃ b off, a = some ⟨b, off, none⟩ ∧ ∀ i p, ps[i]? = some p → ∃ x m c, w.cell? ⟨b, off + i, none⟩ = some (.slice x m c) ∧ Rd w x m p ∧ m ≤ 9223372036854775807)
def Drw (w W : World) : Prop := ∃ q, W = w.drewN q
theorem run_cell_sl (W : World) (g j : Nat) (a : Option Addr) (l c : Nat) (hc : W.cell? ⟨g, j, none⟩ = some (.slice a l c)) : (Instr.loadAt 38 (.pointer (some ⟨g, j, none⟩))).run Tryz.prog W = .ok (.slice a l c) W := by go_simp
set_option maxRecDepth 100000 in
set_option maxHeartbeats 2000000 in
theorem vsame_c (a1 a2 : Option Addr) (n c1 c2 : Nat) (ps : List (List Nat)) (w : World) (h1 : RowRd w a1 n ps) (h2 : RowRd w a2 n ps) (hn : n ≤ 4611686018427387904) :
  Calls Tryz.prog 18 #[.slice a1 n c1, .slice a2 n c2] w (RetD (.bool true) w) := by
 have H1 := Lib.hid h1
 have H2 := Lib.hid h2
 clear h1 h2
 go_enter Tryz.func18, Tryz.ntmps18
 go_wp2_with fail
 go_loopw [5] (fun i wr => ∃ k q : Nat, k ≤ n ∧ i = .int .i64 k ∧ wr = w.drewN q) (fun i _ => n - (intOf i).toNat)
 case atStart => exact ⟨0, 0, Nat.zero_le _, rfl, rfl⟩
 case round =>
  obtain ⟨k, q, hk, rfl, hW⟩ := hrel
  have HW := Lib.hid hW
  by_cases hkn : k < n
  ·
   obtain ⟨b1, o1, rfl, hc1⟩ := H1.out.2.resolve_left (by omega)
   obtain ⟨b2, o2, rfl, hc2⟩ := H2.out.2.resolve_left (by omega)
   obtain ⟨p, hp⟩ : ∃ p, ps[k]? = some p := ⟨_, List.getElem?_eq_getElem (by rw [H1.out.1]; exact hkn)⟩
   obtain ⟨x1, m1, d1, e1, r1, g1⟩ := hc1 k p hp
   obtain ⟨x2, m2, d2, e2, r2, g2⟩ := hc2 k p hp
   have HSM := Lib.hid (show ∀ W, Drw w W → Calls Tryz.prog 55 #[.slice x1 m1 d1, .slice x2 m2 d2] W (RetD (.bool true) W) from fun W hq => by
    obtain ⟨q, rfl⟩ := hq
    have h := same_c x1 x2 m1 d1 m2 d2 p p (w.drewN q) r1.drewN r2.drewN g1
    rw [decide_eq_true rfl] at h
    exact h)
   have HL1 := Lib.hid (show ∀ W, Drw w W → (Instr.loadAt 38 (.pointer (some ⟨b1, o1 + k, none⟩))).run Tryz.prog W = .ok (.slice x1 m1 d1) W from fun W hq => run_cell_sl W b1 (o1 + k) x1 m1 d1 (by obtain ⟨q, rfl⟩ := hq; exact e1))
   have HL2 := Lib.hid (show ∀ W, Drw w W → (Instr.loadAt 38 (.pointer (some ⟨b2, o2 + k, none⟩))).run Tryz.prog W = .ok (.slice x2 m2 d2) W from fun W hq => run_cell_sl W b2 (o2 + k) x2 m2 d2 (by obtain ⟨q, rfl⟩ := hq; exact e2))
   have HS := Lib.hid (show Drw w wr.drew from ⟨q + 1, by rw [hW]; rfl⟩)
   have i0 : (0 : Int) ≤ (k : Int) := by omega
   have i1 : (k : Int) < (n : Int) := by omega
   clear hc1 hc2 hp r1 r2 e1 e2 hW HW
   go_upto_region 6 with fail
   (try dsimp only [Act.put, sT, sZ, sS])
   refine anyH_begin (S := Drw w) (by kernel_rfl) ?_
   -- region
   refine aP 0 (d := 17) (op := .move (.tmp 0)) (.slice (some ⟨b1, o1, none⟩) n c1) HS.out ?_
   simp only [Act.put, sT, sZ, sS]
   refine aP 1 (d := 18) (op := .move (.tmp 5)) (.int .i64 (k : Int)) HS.out ?_
   simp only [Act.put, sT, sZ, sS]
   refine aP 2 (d := 19) (op := .indexAddr 32 (.tmp 17) (.tmp 18)) (.pointer (some ⟨b1, o1 + k, none⟩)) HS.out ?_
   simp only [Act.put, sT, sZ, sS]
   refine aL 3 (d := 20) (ty := 38) (x := (.tmp 19)) (p := .pointer (some ⟨b1, o1 + k, none⟩)) (.slice x1 m1 d1) HL1.out HS.out ?_
   simp only [Act.put, sT, sZ, sS]
   refine aP 4 (d := 21) (op := .move (.tmp 1)) (.slice (some ⟨b2, o2, none⟩) n c2) HS.out ?_
   simp only [Act.put, sT, sZ, sS]
   refine aP 5 (d := 22) (op := .move (.tmp 5)) (.int .i64 (k : Int)) HS.out ?_
   simp only [Act.put, sT, sZ, sS]
   refine aP 6 (d := 23) (op := .indexAddr 32 (.tmp 21) (.tmp 22)) (.pointer (some ⟨b2, o2 + k, none⟩)) HS.out ?_
   simp only [Act.put, sT, sZ, sS]
   refine aL 7 (d := 24) (ty := 38) (x := (.tmp 23)) (p := .pointer (some ⟨b2, o2 + k, none⟩)) (.slice x2 m2 d2) HL2.out HS.out ?_
   simp only [Act.put, sT, sZ, sS]
   refine anyH_callG 8 (d := some 25) (f := 55) (xs := #[(.tmp 20), (.tmp 24)]) (ts := #[38, 38]) (gd := none) (vs := #[.slice x1 m1 d1, .slice x2 m2 d2]) (by kernel_rfl) (by rfl) wantedP (by go_simp) (by go_simp) (HSM.out _ HS.out) ?_
   rintro e W1 ⟨rfl, q2, hW1⟩
   have HS1 := Lib.hid (show Drw w W1 from by obtain ⟨q, hq⟩ := HS.out; exact ⟨q + q2, by rw [hW1, hq]; first | rfl | exact drewN_add _ _ _⟩)
   clear hW1
   refine ⟨_, rfl, HS1.out, fun _ => ?_⟩
   simp only [Act.put, sT, sZ, sS]
   refine aP 9 (d := 26) (op := .unOp .not 4 (.tmp 25)) (.bool false) HS1.out ?_
   simp only [Act.put, sT, sZ, sS]
   -- done
   refine wpAnyH_done (by kernel_rfl) ?_ _
   obtain ⟨q3, hq3⟩ := HS1.out
   have HQ3 := Lib.hid hq3
   clear hq3 HS1 HS HSM HL1 HL2
   go_wp2_with fail
   go_roundw
   case rel => exact ⟨k + 1, q3, by omega, by go_num, HQ3.out⟩
   case measure => simp [intOf]; omega
  ·
   clear hW
   go_wp2_with fail
   go_ret
   exact ⟨rfl, q, HW.out⟩
end Go.Proofs.YtihbgigledmliaaGreat

