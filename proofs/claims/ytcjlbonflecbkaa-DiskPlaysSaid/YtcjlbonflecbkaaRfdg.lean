/-
  The document's disk in memory: May of a Create; Step. The document's disk in memory: Step. The document's disk: does a text begin so.
-/
import Derived.Test.YtcjlbonflecbkaaRfc
namespace Go.Proofs.Ytcjlbonflecbkaa
open Go.RowKit
set_option linter.unusedVariables false
theorem run_cell_fl (W : World) (a : Addr) (v : Option Addr) (l c : Nat) (hc : W.cell? a = some (.slice v l c)) : (Instr.loadAt 88 (.pointer (some a))).run Try.prog W = .ok (.slice v l c) W := by go_simp
theorem run_cell_cs (W : World) (a : Addr) (v : Option Addr) (l c : Nat) (hc : W.cell? a = some (.slice v l c)) : (Instr.loadAt 89 (.pointer (some a))).run Try.prog W = .ok (.slice v l c) W := by go_simp
theorem ixI_neg {l : Fls} {s : ByteArray} (h : lookF l s = none) : ixI (idxF l s) = -1 := by rw [idxF_none.2 h]; rfl
theorem ixI_pos {l : Fls} {s : ByteArray} (h : (lookF l s).isSome = true) : ∃ k : Nat, idxF l s = some k ∧ ixI (idxF l s) = (k : Int) := by
  cases e : idxF l s with
  | none => rw [idxF_none.1 e] at h; cases h
  | some k => exact ⟨k, rfl, rfl⟩
set_option maxRecDepth 100000 in
set_option maxHeartbeats 8000000 in
theorem rmay0_c {F : Nat → Prop} {B m : Nat} {lv : Value} {A : Ad} {w : World} (h : RDK F B m lv A w) (c : DCh) (hk : c.kind = 0) (pa : Option Addr) (pn pc : Nat) (hs : c.a.size ≤ maxLen) (hm : A.now.length ≤ 100000000) :
    Calls Try.prog 85 #[.pointer (some ⟨m, 0, none⟩), .agg #[.int .i64 (c.kind : Int), .string c.a, .string c.b, .slice pa pn pc]] w fun e w' => e = .returned (.int .i64 (A.may c)) ∧ Below w.heap.size w w' := by
  obtain ⟨X, hX⟩ : ∃ X, X = w.heap.size := ⟨_, rfl⟩
  obtain ⟨w1, hw⟩ : ∃ w1, w1 = w.alloc (.cells #[.int .i64 (c.kind : Int), .string c.a, .string c.b, .slice pa pn pc] 94) := ⟨_, rfl⟩
  have hb1 : Below w.heap.size w w1 := by rw [hw]; exact (Below.refl _ _).alloc (Nat.le_refl _) _
  have hh : w1.heap[X]? = some (.cells #[.int .i64 (c.kind : Int), .string c.a, .string c.b, .slice pa pn pc] 94 (0, 0)) := by rw [hw, hX]; exact heap_alloc_new w _
  have hk1 := h.below hb1
  obtain ⟨na, nn, nc, sa, sn, sc, ⟨c0, c1, c2, c3, c4, c5⟩, hfz, hnow, hsure⟩ := hk1.cells
  have x0 := (cell_of_row w1 X 0 _ _ _ hh).trans rfl
  have x1 := (cell_of_row w1 X 1 _ _ _ hh).trans rfl
  have x2 := (cell_of_row w1 X 2 _ _ _ hh).trans rfl
  have x3 := (cell_of_row w1 X 3 _ _ _ hh).trans rfl
  have hlen := hnow.ln
  have HFI := Lib.hid (rfind_c (cap := nc) (hnow.sta (w' := World.drew w1) ⟨Nat.le_refl _, fun _ _ _ => rfl⟩ (Ren.refl _ _)) c.a (by omega))
  have HNM := Lib.hid (fun W => risname_c c.a W hs)
  have HB1 := Lib.hid hb1.drew
  have hk0 : (c.kind : Int) = 0 := by rw [hk]; rfl
  have hmay : A.may c = (if isNm c.a = false then 1 else if (lookF A.now c.a).isSome then 7 else if 4096 ≤ A.now.length then 4 else 0) := by unfold Ad.may; rw [if_pos hk]
  rw [hlen.symm] at hmay
  obtain ⟨v, hv⟩ : ∃ v, v = A.may c := ⟨_, rfl⟩
  rw [← hv]
  rw [hmay] at hv
  have HV := Lib.hid hv
  simp only [hk0] at hw x0 x1 ⊢
  clear h hb1 hh hk1 hnow hsure hfz hmay hv c0 c2 c3 c4 c5 x2 x3
  go_enter Try.func85, Try.ntmps85
  go_wp2_with fail
  rw [← hX, ← hw]
  clear hX hw hk0
  (try dsimp only [Act.put, List.setIfInBounds_toArray, List.set_cons_zero, List.set_cons_succ])
  have HS := Lib.hid (show World.cell? (World.drew w1) ⟨m, 1, none⟩ = some (.slice na nn nc) ∧ World.cell? (World.drew w1) ⟨X, 1, none⟩ = some (.string c.a) from ⟨c1, x1⟩)
  have HL1 := Lib.hid (fun W (hW : World.cell? W ⟨m, 1, none⟩ = some (.slice na nn nc) ∧ World.cell? W ⟨X, 1, none⟩ = some (.string c.a)) => run_cell_fl W ⟨m, 1, none⟩ _ _ _ hW.1)
  have HL2 := Lib.hid (fun W (hW : World.cell? W ⟨m, 1, none⟩ = some (.slice na nn nc) ∧ World.cell? W ⟨X, 1, none⟩ = some (.string c.a)) => run_cell_s W ⟨X, 1, none⟩ _ hW.2)
  refine anyH_begin (S := fun W => World.cell? W ⟨m, 1, none⟩ = some (.slice na nn nc) ∧ World.cell? W ⟨X, 1, none⟩ = some (.string c.a)) (by kernel_rfl) ?_
  refine anyH_pureG 0 (d := 6) (op := .move (.tmp 0)) (gd := none) (.pointer (some ⟨m, 0, none⟩)) (by rfl) (fun o ho => wanted_plain ho _) (by kernel_rfl) (by kernel_rfl) (by kernel_rfl) (fun _ _ _ h => h) (fun o ho W hW => by unfold execOp; simp only [ho]; go_simp) HS.out ?_
  simp only [Act.put, List.setIfInBounds_toArray, List.set_cons_zero, List.set_cons_succ]
  refine anyH_pureG 1 (d := 7) (op := .nilCheck (.tmp 6)) (gd := none) (.pointer (some ⟨m, 0, none⟩)) (by rfl) (fun o ho => wanted_plain ho _) (by kernel_rfl) (by kernel_rfl) (by kernel_rfl) (fun _ _ _ h => h) (fun o ho W hW => by unfold execOp; simp only [ho]; go_simp) HS.out ?_
  simp only [Act.put, List.setIfInBounds_toArray, List.set_cons_zero, List.set_cons_succ]
  refine anyH_pureG 2 (d := 8) (op := .fieldAddr 91 (.tmp 7) 1) (gd := none) (.pointer (some ⟨m, 1, none⟩)) (by rfl) (fun o ho => wanted_plain ho _) (by kernel_rfl) (by kernel_rfl) (by kernel_rfl) (fun _ _ _ h => h) (fun o ho W hW => by unfold execOp; simp only [ho]; go_simp) HS.out ?_
  simp only [Act.put, List.setIfInBounds_toArray, List.set_cons_zero, List.set_cons_succ]
  refine anyH_loadG 3 (d := 9) (ty := 88) (x := (.tmp 8)) (gd := none) (p := .pointer (some ⟨m, 1, none⟩)) (.slice na nn nc) (by rfl) (fun o ho => wanted_plain ho _) (by kernel_rfl) (by kernel_rfl) (by kernel_rfl) (fun _ _ _ h => h) (by rfl) HL1.out HS.out ?_
  simp only [Act.put, List.setIfInBounds_toArray, List.set_cons_zero, List.set_cons_succ]
  refine anyH_pureG 4 (d := 10) (op := .fieldAddr 94 (.tmp 3) 1) (gd := none) (.pointer (some ⟨X, 1, none⟩)) (by rfl) (fun o ho => wanted_plain ho _) (by kernel_rfl) (by kernel_rfl) (by kernel_rfl) (fun _ _ _ h => h) (fun o ho W hW => by unfold execOp; simp only [ho]; go_simp) HS.out ?_
  simp only [Act.put, List.setIfInBounds_toArray, List.set_cons_zero, List.set_cons_succ]
  refine anyH_loadG 5 (d := 11) (ty := 9) (x := (.tmp 10)) (gd := none) (p := .pointer (some ⟨X, 1, none⟩)) (.string c.a) (by rfl) (fun o ho => wanted_plain ho _) (by kernel_rfl) (by kernel_rfl) (by kernel_rfl) (fun _ _ _ h => h) (by rfl) HL2.out HS.out ?_
  simp only [Act.put, List.setIfInBounds_toArray, List.set_cons_zero, List.set_cons_succ]
  refine anyH_callG 6 (d := some 12) (f := 49) (xs := #[(.tmp 9), (.tmp 11)]) (ts := #[88, 9]) (gd := none) (vs := #[.slice na nn nc, .string c.a]) (by kernel_rfl) (by rfl) (fun o ho => wanted_plain ho _) (by go_simp) (by go_simp) (HFI.out) ?_
  rintro e9 w9 ⟨rfl, rfl⟩
  refine ⟨_, rfl, HS.out, fun _ => ?_⟩
  simp only [Act.put, List.setIfInBounds_toArray, List.set_cons_zero, List.set_cons_succ]
  refine anyH_pureG 7 (d := 5) (op := .assign (.tmp 12)) (gd := none) (.int .i64 (ixI (idxF A.now c.a))) (by rfl) (fun o ho => wanted_plain ho _) (by kernel_rfl) (by kernel_rfl) (by kernel_rfl) (fun _ _ _ h => h) (fun o ho W hW => by unfold execOp; simp only [ho]; go_simp) HS.out ?_
  simp only [Act.put, List.setIfInBounds_toArray, List.set_cons_zero, List.set_cons_succ]
  refine wpAnyH_done (by kernel_rfl) ?_ _
  clear HS HL1 HL2
  clear HFI
  obtain ⟨wq, hwq⟩ : ∃ wq, wq = World.drew w1 := ⟨_, rfl⟩
  rw [← hwq] at HB1 ⊢
  have x0 : wq.cell? ⟨X, 0, none⟩ = some (.int .i64 0) := by rw [hwq]; exact x0
  have x1 : wq.cell? ⟨X, 1, none⟩ = some (.string c.a) := by rw [hwq]; exact x1
  have c1 : wq.cell? ⟨m, 1, none⟩ = some (.slice na nn nc) := by rw [hwq]; exact c1
  clear hwq
  rcases (isNm_cases c.a).symm with hn | hn
  · rw [hn] at HNM
    obtain rfl : v = 1 := by rw [HV.out, if_pos hn]
    go_wp2_with fail
    refine (HNM.out _).mono ?_
    rintro e2 w2 ⟨rfl, rfl⟩
    go_wp2_with fail
    go_ret
    exact ⟨rfl, HB1.out⟩
  · rw [hn] at HNM
    have hv := HV.out
    rw [if_neg (by rw [hn]; decide)] at hv
    clear HV
    cases hl : (lookF A.now c.a).isSome with
    | true =>
      obtain ⟨k, _, hix⟩ := ixI_pos hl
      rw [hix]
      obtain rfl : v = 7 := by rw [hv, if_pos hl]
      clear hix hl hv
      go_wp2_with fail
      refine (HNM.out _).mono ?_
      rintro e2 w2 ⟨rfl, rfl⟩
      go_wp2_with fail
      go_ret
      exact ⟨rfl, HB1.out⟩
    | false =>
      have hl2 : lookF A.now c.a = none := by
        cases e : lookF A.now c.a with
        | none => rfl
        | some z => rw [e] at hl; cases hl
      rw [ixI_neg hl2]
      rw [if_neg (by rw [hl]; decide)] at hv
      clear hl hl2
      by_cases hz : 4096 ≤ nn
      · have hz1 : (4096 : Int) ≤ (nn : Int) := by omega
        obtain rfl : v = 4 := by rw [hv, if_pos hz]
        clear hz hv
        go_wp2_with fail
        refine (HNM.out _).mono ?_
        rintro e2 w2 ⟨rfl, rfl⟩
        go_wp2_with fail
        go_ret
        exact ⟨rfl, HB1.out⟩
      · have hz1 : ¬ (4096 : Int) ≤ (nn : Int) := by omega
        obtain rfl : v = 0 := by rw [hv, if_neg hz]
        clear hz hv
        go_wp2_with fail
        refine (HNM.out _).mono ?_
        rintro e2 w2 ⟨rfl, rfl⟩
        go_wp2_with fail
        go_ret
        exact ⟨rfl, HB1.out⟩
end Go.Proofs.Ytcjlbonflecbkaa
namespace Go.Proofs.Ytcjlbonflecbkaa
open Go.RowKit
set_option linter.unusedVariables false
theorem info_dch : (Try.prog.info? 94).map (fun i => (i.zero, i.size, i.bytes)) = some (some (.agg #[.int .i64 0, .string ⟨#[]⟩, .string ⟨#[]⟩, .slice none 0 0]), 4, 64) := by kernel_rfl
theorem run_cellsD (W : World) (X : Nat) (k : Int) (s t : ByteArray) (v : Option Addr) (n c : Nat) (h : W.cell? ⟨X, 0, none⟩ = some (.int .i64 k) ∧ W.cell? ⟨X, 1, none⟩ = some (.string s) ∧ W.cell? ⟨X, 2, none⟩ = some (.string t) ∧ W.cell? ⟨X, 3, none⟩ = some (.slice v n c)) :
    (Instr.loadAt 94 (.pointer (some ⟨X, 0, none⟩))).run Try.prog W = .ok (.agg #[.int .i64 k, .string s, .string t, .slice v n c]) W := by
  obtain ⟨h0, h1, h2, h3⟩ := h
  go_simp
theorem wp_bsD {w : World} {op : Oper} {a : Act} {K : Act → World → Prop} {Q : Exit → Act → World → Prop} (x : Operand) (ho : op.op = .buildSlice 89 1 #[(0, x)]) (k1 : Int) (s t : ByteArray) (v : Option Addr) (n c : Nat) (hx : a.eval x = .agg #[.int .i64 k1, .string s, .string t, .slice v n c])
    (k : K (a.put op.dst (.slice (some ⟨w.heap.size, 0, none⟩) 1 1)) (w.alloc (.cells #[.int .i64 k1, .string s, .string t, .slice v n c] 94))) : op.wp Try.prog a w K Q := by
  unfold Oper.wp execOp
  simp only [ho, List.map_toArray, List.map_cons, List.map_nil, hx]
  go_simp
  exact k
def dcell (r : DR) : List Value := [.int .i64 (r.1.kind : Int), .string r.1.a, .string r.1.b, r.2]
theorem dcells_snoc (ps : List DR) (r : DR) : dcells (ps ++ [r]) = dcells ps ++ dcell r := by unfold dcells dcell; simp
/-- the loose changes get one more -/
theorem RDK.push {F : Nat → Prop} {B m : Nat} {lv v : Value} {A A' : Ad} {c : DCh} {w w' : World} {ps : List DR} {pv : Value} (h : RDK F B m lv A w) (hF : ∀ k, F k → k < w.heap.size) (hps : ps.map (·.1) = A.loose) (hpc : ∀ r ∈ ps, PC (NR F m lv) w r) (hrow : w'.ownsRow B 94 4 v (ps.length + 1) (dcells ps ++ dcell (c, pv))) (hg : w.grownBy w' lv.ownBlock) (hv : v.ownBlock = lv.ownBlock ∨ ∃ k, v.ownBlock = some k ∧ w.heap.size ≤ k)
    (hp : PC (NR F m lv) w (c, pv)) (he : A' = { A with loose := A.loose ++ [c] }) :
    (w'.cell? ⟨m, 3, none⟩ = some lv ∧ w'.frozen? ⟨m, 3, none⟩ = false) ∧ RDK F B m v A' (w'.setCell ⟨m, 3, none⟩ v) ∧ MvR m lv v w (w'.setCell ⟨m, 3, none⟩ v) := by
  subst he
  obtain ⟨na, nn, nc, sa, sn, sc, h1, h2, h3⟩ := h.hd
  have hlt := h.lt
  have hne := h.ne
  have h1' : w'.heap[m]? = some (.cells #[.int .i64 A.room, .slice na nn nc, .slice sa sn sc, lv, .int .i64 A.fuse, .bool A.down] 91 (0, 0)) := (hg.block m hlt fun e => hne e.symm).trans h1
  have ho : ∀ k, k ≠ m → (w'.setCell ⟨m, 3, none⟩ v).heap[k]? = w'.heap[k]? := fun k hk => Below.heap_setCell w' ⟨m, 3, none⟩ v k hk
  have hz : (w'.setCell ⟨m, 3, none⟩ v).heap.size = w'.heap.size := by simp [World.setCell]
  have hN : Sta (NR F m lv) w (w'.setCell ⟨m, 3, none⟩ v) := ⟨by rw [hz]; exact hg.size, fun k hk hn => (ho k fun e => hn (.inr (.inl e))).trans (hg.block k hk fun e => hn (.inr (.inr e.symm)))⟩
  have hown : ∀ k, OwnR m v k → OwnR m lv k ∨ w.heap.size ≤ k := fun k hk => by
    rcases hk with hk | hk
    · exact .inl (.inl hk)
    · rcases hv with hv | ⟨j, hv, hj⟩
      · exact .inl (.inr (hv.symm.trans hk))
      · rw [hv] at hk
        have := Option.some.inj hk
        exact .inr (by omega)
  have hR : Ren (NR F m lv) (NR F m v) w := fun k hk => by
    rcases hk with hk | hk
    · exact .inl (.inl hk)
    · rcases hown k hk with h4 | h4
      · exact .inl (.inr h4)
      · exact .inr h4
  refine ⟨⟨(cell_of_row w' m 3 _ _ _ h1').trans rfl, frozen_of_row w' m 3 _ _ h1'⟩, ⟨h.base, fun k hk hf => ?_, ⟨na, nn, nc, sa, sn, sc, row_set h1' v (o := 3) (by show 3 < 6; omega), h2.sta hN hR, h3.sta hN hR⟩, ps ++ [(c, pv)], by simp [hps], ?_, fun r hr => ?_⟩, hg.os, hg.tape, hg.output, by rw [hz]; exact hg.size, fun k hk hn => (ho k fun e => hn (.inl e)).trans (hg.block k hk fun e => hn (.inr e.symm)), hown⟩
  · rcases hown k hk with h4 | h4
    · exact h.noF k h4 hf
    · have := hF k hf; omega
  · rw [dcells_snoc, List.length_append, List.length_singleton]
    refine row_keep hrow fun k hk => ho k fun e => ?_
    obtain ⟨_, cur, hh⟩ := row_block hrow hk
    rw [e, h1'] at hh
    simp only [Option.some.injEq, Obj.cells.injEq] at hh
    exact absurd hh.2.1 (by decide)
  · have hr' : PC (NR F m lv) w r := by
      rcases List.mem_append.1 hr with hr | hr
      · exact hpc r hr
      · rw [List.mem_singleton] at hr; subst hr; exact hp
    obtain ⟨ra, rn, rc, h7, h8⟩ := hr'
    exact ⟨ra, rn, rc, h7, h8.sta hN hR⟩
theorem dcell_one (c : DCh) (v : Option Addr) (n k : Nat) : ∀ u ∈ dcell (c, .slice v n k), u.oneCell' = true := by
  intro u hu
  simp only [dcell, List.mem_cons, List.not_mem_nil, or_false] at hu
  rcases hu with rfl | rfl | rfl | rfl <;> rfl
theorem wp_pushD {w : World} {op : Oper} {a : Act} {K : Act → World → Prop} {Q : Exit → Act → World → Prop} (s x : Operand)
    (ho : op.op = .call { callee := .builtin .append, args := #[s, x], argTypes := #[89, 89] })
    {F : Nat → Prop} (B m : Nat) (lv : Value) (A : Ad) (c : DCh) (ta : Option Addr) (tn tc : Nat) (h : RDK F B m lv A w) (hF : ∀ k, F k → k < w.heap.size) (hp : PC (NR F m lv) w (c, .slice ta tn tc)) (hs : a.eval s = lv) (hx : a.eval x = .slice (some ⟨w.heap.size, 0, none⟩) 1 1) (hlen : A.loose.length + 1 ≤ 1000000000)
    (k : ∀ va vn vc w', w'.cell? ⟨m, 3, none⟩ = some lv → w'.frozen? ⟨m, 3, none⟩ = false → RDK F B m (.slice va vn vc) { A with loose := A.loose ++ [c] } (w'.setCell ⟨m, 3, none⟩ (.slice va vn vc)) → MvR m lv (.slice va vn vc) w (w'.setCell ⟨m, 3, none⟩ (.slice va vn vc)) → K (a.put op.dst (.slice va vn vc)) w') :
    op.wp Try.prog a (w.alloc (.cells (dcell (c, .slice ta tn tc)).toArray 94)) K Q := by
  obtain ⟨i0, hi, hz0, hz1, hz2⟩ := info_parts info_dch
  have hb := (Below.refl w.heap.size w).alloc (Nat.le_refl _) (.cells (dcell (c, .slice ta tn tc)).toArray 94)
  have ha := h.below hb
  obtain ⟨ps, h4, h5, h6⟩ := ha.hl
  have hpl : ps.length = A.loose.length := by rw [← h4, List.length_map]
  obtain ⟨v', w', hr, h1, h2, _, h7⟩ := run_append_own_at (P := Try.prog) (w.alloc (.cells (dcell (c, .slice ta tn tc)).toArray 94)) B 89 op.type 94 i0 _ 4 64 Try.underlying89 hi hz0 hz1 hz2 rfl (by decide) lv ps.length _ h5 ⟨w.heap.size, 0, none⟩ 1 1 (dcell (c, .slice ta tn tc)) rfl (fun j u hj => by
      rw [Addr.add_mid, Nat.zero_add, cell_of_row _ _ _ _ _ _ (heap_alloc_new w _)]
      simpa using hj) (dcell_one _ _ _ _) (by unfold maxLen; omega) (by omega) (by have h1 := h.base; have h2 := h.lt; simp; omega)
  obtain ⟨g1, g2, g3⟩ := ha.push (fun k hk => by have := hF k hk; simp; omega) h4 h6 h1 h2 (by
    rcases h7 with h7 | h7
    · exact .inl h7
    · exact .inr ⟨_, h7, Nat.le_refl _⟩) (by obtain ⟨ra, rn, rc, e1, e2⟩ := hp; exact ⟨ra, rn, rc, e1, e2.below hb⟩) rfl
  have hm : MvR m lv v' w (w'.setCell ⟨m, 3, none⟩ v') := (MvR.ofBelow hb).trans g3
  rcases h1.2 with ⟨rfl, h0⟩ | ⟨g, cap, cur, rfl, _⟩
  · omega
  · unfold Oper.wp execOp
    simp only [ho, resolve, invoke, builtin, Sem.run_bind, Sem.run_pure, Result.andThen_ok, List.map_toArray, List.map_cons, List.map_nil, hs, hx, hr]
    exact k _ _ _ w' g1.1 g1.2 g2 hm
theorem own_RB {N : Nat → Prop} {w : World} {B : Nat} {v : Value} {zs : List Nat} (h : Own w B v zs) (hz : ∀ z ∈ zs, z < 256) (hN : ∀ k, N k → k < B) : ∃ ta tn tc, v = .slice ta tn tc ∧ RB N w ta tn tc zs := by
  obtain ⟨ra, rc, hv, hle, -, hrd⟩ := h.rd hz
  refine ⟨ra, _, rc, hv, hrd, fun b o s e hn hb => ?_, fun e => ?_, hle⟩
  · have hB := World.ownsRow.lt h b (by rw [hv, e]; rfl)
    have := hN b hb
    omega
  · rcases h.2 with ⟨h1, _⟩ | ⟨g, c, cur, h1, _⟩
    · rw [hv] at h1
      exact (Value.slice.inj h1).2.2
    · rw [hv] at h1
      rw [e] at h1
      cases (Value.slice.inj h1).1
/-- with a block more -/
structure Mv1 (m : Nat) (lv lv' : Value) (w w' : World) : Prop extends MvR m lv lv' w w' where
  size1 : w.heap.size + 1 ≤ w'.heap.size
theorem Mv1.trans {m : Nat} {l0 l1 l2 : Value} {w w1 w2 : World} (h : Mv1 m l0 l1 w w1) (k : MvR m l1 l2 w1 w2) : Mv1 m l0 l2 w w2 := ⟨h.toMvR.trans k, Nat.le_trans h.size1 k.size⟩
theorem RDK.weak {F G : Nat → Prop} {B m : Nat} {lv : Value} {A : Ad} {w : World} (h : RDK G B m lv A w) (hw : ∀ k, F k → G k) : RDK F B m lv A w := h.sta (Sta.refl _ _) fun k hk => .inl (hw k hk)
theorem MvR.sta {F : Nat → Prop} {m : Nat} {lv lv' : Value} {w w' : World} (h : MvR m lv lv' w w') : Sta (NR F m lv) w w' := ⟨h.size, fun k hk hn => h.block k hk fun ho => hn (.inr ho)⟩
/-- what a step leaves -/
def StpR (F : Nat → Prop) (B m : Nat) (lv : Value) (w : World) (x : Int) (A' : Ad) (e : Ending) (w' : World) : Prop := e = .returned (.int .i64 x) ∧ ∃ lv', RDK F B m lv' A' w' ∧ MvR m lv lv' w w'
set_option maxRecDepth 100000 in
set_option maxHeartbeats 8000000 in
theorem rstep_c {F : Nat → Prop} {B m : Nat} {lv : Value} {A : Ad} {w0 : World} (h : RDK F B m lv A w0) (hF : ∀ k, F k → k < w0.heap.size) (c : DCh) (pa : Option Addr) (pn pc : Nat) (hp : RB (NR F m lv) w0 pa pn pc c.p) (hpn : pn ≤ 140737488355327) (hfu : A.fuse ≤ 9223372036854775807) (hll : A.loose.length + 1 ≤ 1000000000)
    (hmay : A.down = false → ∀ (G : Nat → Prop) W, RDK G B m lv A W → Calls Try.prog 85 #[.pointer (some ⟨m, 0, none⟩), .agg #[.int .i64 (c.kind : Int), .string c.a, .string c.b, .slice pa pn pc]] W fun e w' => e = .returned (.int .i64 (A.may c)) ∧ Below W.heap.size W w')
    (hdo : A.may c = 0 → ∀ (N : Nat → Prop) W na nn nc ta tn tc, (∀ k, N k → k < W.heap.size) → RF N W na nn A.now → RB N W ta tn tc c.p → Calls Try.prog 87 #[.slice na nn nc, .agg #[.int .i64 (c.kind : Int), .string c.a, .string c.b, .slice ta tn tc]] W (RetF N (doF A.now c) W)) :
    Calls Try.prog 43 #[.pointer (some ⟨m, 0, none⟩), .agg #[.int .i64 (c.kind : Int), .string c.a, .string c.b, .slice pa pn pc]] w0 (StpR F B m lv w0 (A.step c).2 (A.step c).1) := by
  obtain ⟨X, hX⟩ : ∃ X, X = w0.heap.size := ⟨_, rfl⟩
  obtain ⟨w1, hw⟩ : ∃ w1, w1 = w0.alloc (.cells #[.int .i64 (c.kind : Int), .string c.a, .string c.b, .slice pa pn pc] 94) := ⟨_, rfl⟩
  have hb1 : Below w0.heap.size w0 w1 := by rw [hw]; exact (Below.refl _ _).alloc (Nat.le_refl _) _
  have hh : w1.heap[X]? = some (.cells #[.int .i64 (c.kind : Int), .string c.a, .string c.b, .slice pa pn pc] 94 (0, 0)) := by rw [hw, hX]; exact heap_alloc_new w0 _
  obtain ⟨G, hG⟩ : ∃ G : Nat → Prop, G = fun k => F k ∨ k = X := ⟨_, rfl⟩
  have hRG : Ren F G w0 := fun k hk => by rw [hG] at hk; rcases hk with hk | hk; exact .inl hk; exact .inr (by omega)
  have hRN : Ren (NR F m lv) (NR G m lv) w0 := fun k hk => by
    rcases hk with hk | hk
    · rcases hRG k hk with h1 | h1
      · exact .inl (.inl h1)
      · exact .inr h1
    · exact .inl (.inr hk)
  have hk1 : RDK G B m lv A w1 := h.sta (Sta.ofBelow hb1) hRG
  have HWK := Lib.hid (show ∀ k, F k → G k from fun k hk => by rw [hG]; exact .inl hk)
  have HGX := Lib.hid (show G X by rw [hG]; exact .inr rfl)
  have HG0 := Lib.hid (show ∀ k, G k → k < w0.heap.size + 1 from fun k hk => by rw [hG] at hk; rcases hk with hk | hk; exact Nat.lt_succ_of_lt (hF k hk); omega)
  have HZ0 := Lib.hid (show w0.heap.size + 1 ≤ w1.heap.size by rw [hw]; simp)
  have HRN := Lib.hid hRN
  clear hRG hG
  obtain ⟨na0, nn0, nc0, sa0, sn0, sc0, ⟨-, -, -, -, -, c5⟩, -, -, -⟩ := hk1.cells
  have x0 := (cell_of_row w1 X 0 _ _ _ hh).trans rfl
  have x1 := (cell_of_row w1 X 1 _ _ _ hh).trans rfl
  have x2 := (cell_of_row w1 X 2 _ _ _ hh).trans rfl
  have x3 := (cell_of_row w1 X 3 _ _ _ hh).trans rfl
  have HXL := Lib.hid (show lv.ownBlock ≠ some X from fun e => by have := (h.ownLt (.inr e)).2; omega)
  have HXO := Lib.hid (show ¬ OwnR m lv X from fun ho => by have := (h.ownLt ho).2; omega)
  have HF0 := Lib.hid hF
  have HXE := Lib.hid hX
  have HK1 := Lib.hid hk1
  have HH := Lib.hid hh
  have HB1 := Lib.hid hb1
  have HP1 := Lib.hid (hp.sta (Sta.ofBelow hb1) hRN)
  clear hRN
  have HMAY := Lib.hid hmay
  have HDO0 := Lib.hid hdo
  rcases down_cases A with hd | hd
  · rw [Ad.step_down c hd]
    rw [hd] at c5
    clear h hb1 hh hk1 hp hmay hdo hF
    go_enter Try.func43, Try.ntmps43
    go_upto_region 1 with fail
    rw [← hX]
    rw [← hw]
    clear hX hw
    go_wp2_with fail
    go_ret
    exact ⟨rfl, _, HK1.out.weak HWK.out, MvR.ofBelow HB1.out⟩
  rw [hd] at c5
  have HM := Lib.hid (HMAY.out hd G w1 HK1.out)
  clear HMAY
  by_cases he : ¬ A.may c = 0
  · rw [Ad.step_no hd rfl he]
    have he' : (A.may c == 0) = false := beq_eq_false_iff_ne.2 he
    obtain ⟨x, hx⟩ : ∃ x, x = A.may c := ⟨_, rfl⟩
    rw [← hx] at HM he he' ⊢
    clear hx h hb1 hh hk1 hp hmay hdo hF
    go_enter Try.func43, Try.ntmps43
    go_upto_region 1 with fail
    rw [← hX]
    rw [← hw]
    clear hX hw
    go_wp2_with fail
    refine HM.out.mono ?_
    rintro e2 w2 ⟨rfl, hb2⟩
    have HK2 := Lib.hid (HK1.out.below hb2)
    have HM2 := Lib.hid ((MvR.ofBelow (m := m) (lv := lv) HB1.out).trans (MvR.ofBelow hb2))
    clear hb2 HM x0 x1 x2 x3 c5
    go_wp2_with fail
    go_ret
    exact ⟨rfl, _, HK2.out.weak HWK.out, HM2.out⟩
  have he0 : A.may c = 0 := Classical.not_not.1 he
  rw [he0] at HM
  have HDO1 := Lib.hid (HDO0.out he0)
  by_cases hfz : A.fuse = 0
  · rw [Ad.step_off hd he0 hfz]
    have hpw : A.pow = (A.off, false) := by unfold Ad.pow; rw [if_pos hfz]
    clear h hb1 hh hk1 hp hmay hdo hF
    go_enter Try.func43, Try.ntmps43
    go_upto_region 1 with fail
    rw [← hX]
    rw [← hw]
    clear hX hw
    go_wp2_with fail
    refine HM.out.mono ?_
    rintro e2 w2 ⟨rfl, hb2⟩
    have HK2 := Lib.hid (HK1.out.below hb2)
    have HM2 := Lib.hid ((MvR.ofBelow (m := m) (lv := lv) HB1.out).trans (MvR.ofBelow hb2))
    have HPW := Lib.hid (rpower_c HK2.out hfu)
    rw [hpw] at HPW
    clear hb2 HM x0 x1 x2 x3 c5 hfz hpw he he0
    go_wp2_with fail
    refine HPW.out.mono ?_
    rintro e3 w3 ⟨rfl, hk3, hm3⟩
    have HK3 := Lib.hid hk3
    have HM3 := Lib.hid (HM2.out.trans hm3)
    clear hk3 hm3
    go_wp2_with fail
    go_ret
    exact ⟨rfl, _, HK3.out.weak HWK.out, HM3.out⟩
  rw [Ad.step_did hd he0 hfz]
  have hpw : A.pow = (A.spent, true) := by unfold Ad.pow; rw [if_neg hfz]
  clear h hb1 hh hk1 hp hmay hdo hF
  go_enter Try.func43, Try.ntmps43
  go_upto_region 1 with fail
  rw [← hX]
  rw [← hw]
  clear hX hw
  go_wp2_with fail
  refine HM.out.mono ?_
  rintro e2 w2 ⟨rfl, hb2⟩
  have HK2 := Lib.hid (HK1.out.below hb2)
  have HM2 := Lib.hid ((Mv1.mk (MvR.ofBelow (m := m) (lv := lv) HB1.out) HZ0.out).trans (MvR.ofBelow hb2))
  have HX2 := Lib.hid ((hb2.block X (Array.getElem?_eq_some_iff.1 HH.out).1).trans HH.out)
  have HR2 := Lib.hid (HP1.out.below hb2)
  obtain ⟨A1, hA1⟩ : ∃ A1, A1 = A.spent := ⟨_, rfl⟩
  have HN1 := Lib.hid (show A1.now = A.now ∧ A1.loose = A.loose from by rw [hA1]; exact ⟨rfl, rfl⟩)
  have HDO := Lib.hid (show ∀ (N : Nat → Prop) W na nn nc ta tn tc, (∀ k, N k → k < W.heap.size) → RF N W na nn A1.now → RB N W ta tn tc c.p → Calls Try.prog 87 #[.slice na nn nc, .agg #[.int .i64 (c.kind : Int), .string c.a, .string c.b, .slice ta tn tc]] W (RetF N (doF A1.now c) W) from by rw [hA1]; exact HDO1.out)
  have HDID := Lib.hid (show ∀ A2 : Ad, A2 = { A1 with now := doF A1.now c } → ({ A2 with loose := A2.loose ++ [c] } : Ad) = A.did c from fun A2 h => by rw [h, hA1]; rfl)
  have HPW := Lib.hid (rpower_c HK2.out hfu)
  rw [hpw] at HPW
  simp only [← hA1] at HPW
  clear hA1 hb2 HM x0 x1 x2 x3 c5 hfz hpw he he0
  go_wp2_with fail
  refine HPW.out.mono ?_
  rintro e3 w3 ⟨rfl, hk3, hm3⟩
  have hx3 := (hm3.block X (Array.getElem?_eq_some_iff.1 HX2.out).1 HXO.out).trans HX2.out
  have x3 := (cell_of_row w3 X 3 _ _ _ hx3).trans rfl
  have z3 := frozen_of_row w3 X 3 _ _ hx3
  have HX3 := Lib.hid hx3
  have HK3 := Lib.hid hk3
  have HM3 := Lib.hid (HM2.out.trans hm3)
  have HMP := Lib.hid hm3
  clear hk3 hm3 hx3 HPW HK1 HB1 HK2 HM2 HX2
  have HR3 := Lib.hid (HR2.out.sta HMP.out.sta (Ren.refl _ _))
  clear HMP HR2
  go_wp2_with fail
  refine (twin_c pa pn pc c.p w3 HR3.out.rd hpn).mono ?_
  rintro e4 w31 ⟨v4, rfl, hown4, hb4⟩
  clear x3 z3
  have hlow : ∀ k, NR G m lv k → k < w3.heap.size := fun k hk => by
    rcases hk with hk | hk
    · exact Nat.lt_of_lt_of_le (HG0.out k hk) HM3.out.size1
    · exact (HK3.out.ownLt hk).2
  obtain ⟨ta, tn, tc, rfl, hrb4⟩ := own_RB hown4 HR3.out.rd.2.1 hlow
  have hx31 := (hb4.block X (Array.getElem?_eq_some_iff.1 HX3.out).1).trans HX3.out
  have x3 := (cell_of_row w31 X 3 _ _ _ hx31).trans rfl
  have z3 := frozen_of_row w31 X 3 _ _ hx31
  have hk31 := HK3.out.below hb4
  have hm31 := HM3.out.trans (MvR.ofBelow hb4)
  obtain ⟨w4, hw4⟩ : ∃ w4, w4 = w31.setCell ⟨X, 3, none⟩ (.slice ta tn tc) := ⟨_, rfl⟩
  have hoX : ∀ k, k ≠ X → w4.heap[k]? = w31.heap[k]? := fun k hk => by rw [hw4]; exact Below.heap_setCell w31 ⟨X, 3, none⟩ _ k hk
  have hz4 : w4.heap.size = w31.heap.size := by rw [hw4]; simp [World.setCell]
  have hs4 : Sta G w31 w4 := ⟨by omega, fun k hk hn => hoX k fun e => hn (by rw [e]; exact HGX.out)⟩
  have HX4 := Lib.hid (show w4.heap[X]? = some (.cells #[.int .i64 (c.kind : Int), .string c.a, .string c.b, .slice ta tn tc] 94 (0, 0)) from by rw [hw4]; exact row_set hx31 (.slice ta tn tc) (o := 3) (by show 3 < 4; omega))
  have HK4 := Lib.hid (hk31.sta hs4 (Ren.refl _ _))
  have HM4 := Lib.hid (show Mv1 m lv lv w0 w4 from ⟨⟨by rw [hw4]; exact hm31.os, by rw [hw4]; exact hm31.tape, by rw [hw4]; exact hm31.output, by rw [hz4]; exact hm31.size, fun k hk hn => (hoX k (by have := HXE.out; omega)).trans (hm31.block k hk hn), hm31.own⟩, by rw [hz4]; exact hm31.size1⟩)
  have HP4 := Lib.hid (hrb4.sta (w' := w4) ⟨hs4.size, fun k hk hn => hs4.blk k hk fun hg => hn (.inl hg)⟩ (Ren.refl _ _))
  clear HR3 hown4 hb4 hrb4 hx31 hk31 hm31 hoX hz4 hs4 HX3 HK3 HM3 hlow
  go_wp2_with fail
  rw [← hw4]
  clear hw4 x3 z3
  (try dsimp only [Act.put, List.setIfInBounds_toArray, List.set_cons_zero, List.set_cons_succ])
  obtain ⟨w5, hw5⟩ : ∃ w5, w5 = World.drew w4 := ⟨_, rfl⟩
  have HK5 := Lib.hid (show RDK G B m lv A1 w5 from by rw [hw5]; exact HK4.out.below (Below.refl _ _).drew)
  have HM5 := Lib.hid (show Mv1 m lv lv w0 w5 from by rw [hw5]; exact HM4.out.trans (MvR.ofBelow (Below.refl _ _).drew))
  have HP5 := Lib.hid (show RB (NR G m lv) w5 ta tn tc c.p from by rw [hw5]; exact HP4.out.below (Below.refl _ _).drew)
  have hx5 : w5.heap[X]? = some (.cells #[.int .i64 (c.kind : Int), .string c.a, .string c.b, .slice ta tn tc] 94 (0, 0)) := by rw [hw5]; exact HX4.out
  obtain ⟨na, nn, nc, sa, sn, sc, ⟨-, c1, -, -, -, -⟩, hfz, hnow, hsure⟩ := HK5.out.cells
  have HX5 := Lib.hid hx5
  have HS := Lib.hid (show World.cell? w5 ⟨X, 0, none⟩ = some (.int .i64 (c.kind : Int)) ∧ World.cell? w5 ⟨X, 1, none⟩ = some (.string c.a) ∧ World.cell? w5 ⟨X, 2, none⟩ = some (.string c.b) ∧ World.cell? w5 ⟨X, 3, none⟩ = some (.slice ta tn tc) from ⟨(cell_of_row w5 X 0 _ _ _ hx5).trans rfl, (cell_of_row w5 X 1 _ _ _ hx5).trans rfl, (cell_of_row w5 X 2 _ _ _ hx5).trans rfl, (cell_of_row w5 X 3 _ _ _ hx5).trans rfl⟩)
  have HL1 := Lib.hid (run_cell_fl w5 ⟨m, 1, none⟩ _ _ _ c1)
  have HL2 := Lib.hid (fun W (hW : World.cell? W ⟨X, 0, none⟩ = some (.int .i64 (c.kind : Int)) ∧ World.cell? W ⟨X, 1, none⟩ = some (.string c.a) ∧ World.cell? W ⟨X, 2, none⟩ = some (.string c.b) ∧ World.cell? W ⟨X, 3, none⟩ = some (.slice ta tn tc)) => run_cellsD W X _ _ _ _ _ _ hW)
  have HDO5 := Lib.hid (HDO.out (NR G m lv) w5 na nn nc ta tn tc (fun k hk => by rcases hk with hk | hk; exact Nat.lt_of_lt_of_le (HG0.out k hk) HM5.out.size1; exact (HK5.out.ownLt hk).2) hnow HP5.out)
  refine anyH_begin (S := fun W => World.cell? W ⟨X, 0, none⟩ = some (.int .i64 (c.kind : Int)) ∧ World.cell? W ⟨X, 1, none⟩ = some (.string c.a) ∧ World.cell? W ⟨X, 2, none⟩ = some (.string c.b) ∧ World.cell? W ⟨X, 3, none⟩ = some (.slice ta tn tc)) (by kernel_rfl) ?_
  rw [← hw5]
  clear hw5 hx5 c1 hfz hnow hsure HK4 HM4 HP4 HX4 HDO
  refine anyH_pureG 0 (d := 23) (op := .move (.tmp 0)) (gd := none) (.pointer (some ⟨m, 0, none⟩)) (by rfl) (fun o ho => wanted_plain ho _) (by kernel_rfl) (by kernel_rfl) (by kernel_rfl) (fun _ _ _ h => h) (fun o ho W hW => by unfold execOp; simp only [ho]; go_simp) HS.out ?_
  simp only [Act.put, List.setIfInBounds_toArray, List.set_cons_zero, List.set_cons_succ]
  refine anyH_pureG 1 (d := 24) (op := .move (.tmp 0)) (gd := none) (.pointer (some ⟨m, 0, none⟩)) (by rfl) (fun o ho => wanted_plain ho _) (by kernel_rfl) (by kernel_rfl) (by kernel_rfl) (fun _ _ _ h => h) (fun o ho W hW => by unfold execOp; simp only [ho]; go_simp) HS.out ?_
  simp only [Act.put, List.setIfInBounds_toArray, List.set_cons_zero, List.set_cons_succ]
  refine anyH_pureG 2 (d := 25) (op := .nilCheck (.tmp 24)) (gd := none) (.pointer (some ⟨m, 0, none⟩)) (by rfl) (fun o ho => wanted_plain ho _) (by kernel_rfl) (by kernel_rfl) (by kernel_rfl) (fun _ _ _ h => h) (fun o ho W hW => by unfold execOp; simp only [ho]; go_simp) HS.out ?_
  simp only [Act.put, List.setIfInBounds_toArray, List.set_cons_zero, List.set_cons_succ]
  refine anyH_pureG 3 (d := 26) (op := .fieldAddr 91 (.tmp 25) 1) (gd := none) (.pointer (some ⟨m, 1, none⟩)) (by rfl) (fun o ho => wanted_plain ho _) (by kernel_rfl) (by kernel_rfl) (by kernel_rfl) (fun _ _ _ h => h) (fun o ho W hW => by unfold execOp; simp only [ho]; go_simp) HS.out ?_
  simp only [Act.put, List.setIfInBounds_toArray, List.set_cons_zero, List.set_cons_succ]
  refine anyH_loadG 5 (d := 28) (ty := 94) (x := (.tmp 3)) (gd := none) (p := .pointer (some ⟨X, 0, none⟩)) (.agg #[.int .i64 (c.kind : Int), .string c.a, .string c.b, .slice ta tn tc]) (by rfl) (fun o ho => wanted_plain ho _) (by kernel_rfl) (by kernel_rfl) (by kernel_rfl) (fun _ _ _ h => h) (by rfl) HL2.out HS.out ?_
  simp only [Act.put, List.setIfInBounds_toArray, List.set_cons_zero, List.set_cons_succ]
  refine wpAnyH_all (rs := [4]) (by kernel_rfl) (by simp) ?_
  intro k hk; simp only [List.mem_cons, List.not_mem_nil, or_false] at hk; subst hk
  refine op_atJ 4 (d := some 27) (op := .load 88 (.tmp 26)) (by rfl) ?_
  intro o4 hod4 hoo4
  refine wp_load_g 88 (.tmp 26) hoo4 (.pointer (some ⟨m, 1, none⟩)) (.slice na nn nc) (by rfl) HL1.out ?_
  rw [hod4]
  clear hod4 hoo4
  simp only [Act.put, List.setIfInBounds_toArray, List.set_cons_zero, List.set_cons_succ]
  refine ⟨HS.out, ?_⟩
  refine anyH_callG 6 (d := some 29) (f := 87) (xs := #[(.tmp 27), (.tmp 28)]) (ts := #[88, 94]) (gd := none) (vs := #[.slice na nn nc, .agg #[.int .i64 (c.kind : Int), .string c.a, .string c.b, .slice ta tn tc]]) (by kernel_rfl) (by rfl) (fun o ho => wanted_plain ho _) (by go_simp) (by go_simp) (HDO5.out) ?_
  rintro e6 w6 ⟨ya, yl, yc, rfl, hrf6, hb6⟩
  have HK6 := Lib.hid (HK5.out.below hb6)
  have HM6 := Lib.hid (HM5.out.trans (MvR.ofBelow hb6))
  have HP6 := Lib.hid (HP5.out.below hb6)
  have hx6 := (hb6.block X (Array.getElem?_eq_some_iff.1 HX5.out).1).trans HX5.out
  have HX6 := Lib.hid hx6
  have HRF6 := Lib.hid hrf6
  have HS := Lib.hid (show World.cell? w6 ⟨X, 0, none⟩ = some (.int .i64 (c.kind : Int)) ∧ World.cell? w6 ⟨X, 1, none⟩ = some (.string c.a) ∧ World.cell? w6 ⟨X, 2, none⟩ = some (.string c.b) ∧ World.cell? w6 ⟨X, 3, none⟩ = some (.slice ta tn tc) from ⟨(cell_of_row w6 X 0 _ _ _ hx6).trans rfl, (cell_of_row w6 X 1 _ _ _ hx6).trans rfl, (cell_of_row w6 X 2 _ _ _ hx6).trans rfl, (cell_of_row w6 X 3 _ _ _ hx6).trans rfl⟩)
  refine ⟨_, rfl, HS.out, fun _ => ?_⟩
  clear hb6 hx6 hrf6 HK5 HM5 HP5 HX5 HDO5 HL1 HL2
  simp only [Act.put, List.setIfInBounds_toArray, List.set_cons_zero, List.set_cons_succ]
  refine anyH_pureG 7 (d := 30) (op := .nilCheck (.tmp 23)) (gd := none) (.pointer (some ⟨m, 0, none⟩)) (by rfl) (fun o ho => wanted_plain ho _) (by kernel_rfl) (by kernel_rfl) (by kernel_rfl) (fun _ _ _ h => h) (fun o ho W hW => by unfold execOp; simp only [ho]; go_simp) HS.out ?_
  simp only [Act.put, List.setIfInBounds_toArray, List.set_cons_zero, List.set_cons_succ]
  refine anyH_pureG 8 (d := 31) (op := .fieldAddr 91 (.tmp 30) 1) (gd := none) (.pointer (some ⟨m, 1, none⟩)) (by rfl) (fun o ho => wanted_plain ho _) (by kernel_rfl) (by kernel_rfl) (by kernel_rfl) (fun _ _ _ h => h) (fun o ho W hW => by unfold execOp; simp only [ho]; go_simp) HS.out ?_
  simp only [Act.put, List.setIfInBounds_toArray, List.set_cons_zero, List.set_cons_succ]
  obtain ⟨k7, m7⟩ := HK6.out.cellSet 1 (.slice ya yl yc) { A1 with now := doF A1.now c } (na := none) (sa := none) (nn := 0) (nc := 0) (sn := 0) (sc := 0) (fun na nn nc sa sn sc _ h2 h3 => ⟨ya, yl, yc, sa, sn, sc, rfl, HRF6.out, h3⟩) (by omega) rfl
  have HTH := Lib.hid (show w6.there m 1 1 from fun j hj => by
    obtain rfl : j = 0 := by omega
    obtain ⟨_, _, _, _, _, _, ⟨-, d1, -⟩, dz, -⟩ := HK6.out.cells
    exact ⟨by rw [Nat.add_zero, d1]; rfl, dz 1⟩)
  have HK7 := Lib.hid k7
  have HM7 := Lib.hid (HM6.out.trans m7)
  have HXM := Lib.hid (show X ≠ m from by rintro rfl; exact absurd HX6.out (by obtain ⟨_, _, _, _, _, _, h1, _⟩ := HK6.out.hd; rw [h1]; intro e; simp only [Option.some.injEq, Obj.cells.injEq] at e; exact absurd e.2.1 (by decide)))
  have hst7 : ∀ k, k ≠ m → (w6.setCell ⟨m, 1, none⟩ (.slice ya yl yc)).heap[k]? = w6.heap[k]? := fun k hk => Below.heap_setCell w6 ⟨m, 1, none⟩ _ k hk
  have HP7 := Lib.hid (show RB (NR G m lv) (w6.setCell ⟨m, 1, none⟩ (.slice ya yl yc)) ta tn tc c.p from HP6.out.sta ⟨by simp [World.setCell], fun k hk hn => hst7 k fun e => hn (.inr (.inl e))⟩ (Ren.refl _ _))
  have HX7 := Lib.hid ((hst7 X HXM.out).trans HX6.out)
  refine wpAnyH_all (rs := [9]) (by kernel_rfl) (by simp) ?_
  intro k hk; simp only [List.mem_cons, List.not_mem_nil, or_false] at hk; subst hk
  refine op_atJ 9 (d := none) (op := .store 88 (.tmp 31) (.tmp 29)) (by rfl) ?_
  intro o7 hod7 hoo7
  refine wp_store_one 88 (.tmp 31) (.tmp 29) hoo7 m 1 (.slice ya yl yc) (by rfl) (by rfl) HTH.out (by kernel_rfl) (by rfl) (by rfl) ?_
  rw [hod7]
  clear hod7 hoo7 k7 m7 hst7
  simp only [Act.put, List.setIfInBounds_toArray, List.set_cons_zero, List.set_cons_succ]
  obtain ⟨w7, hw7⟩ : ∃ w7, w7 = w6.setCells m 1 [.slice ya yl yc] := ⟨_, rfl⟩
  have HK7 := Lib.hid (show RDK G B m lv { A1 with now := doF A1.now c } w7 from by rw [hw7]; exact HK7.out)
  have HM7 := Lib.hid (show Mv1 m lv lv w0 w7 from by rw [hw7]; exact HM7.out)
  have HP7 := Lib.hid (show RB (NR G m lv) w7 ta tn tc c.p from by rw [hw7]; exact HP7.out)
  have hx7 : w7.heap[X]? = some (.cells #[.int .i64 (c.kind : Int), .string c.a, .string c.b, .slice ta tn tc] 94 (0, 0)) := by rw [hw7]; exact HX7.out
  rw [← hw7]
  have HX7 := Lib.hid hx7
  refine ⟨⟨(cell_of_row w7 X 0 _ _ _ hx7).trans rfl, (cell_of_row w7 X 1 _ _ _ hx7).trans rfl, (cell_of_row w7 X 2 _ _ _ hx7).trans rfl, (cell_of_row w7 X 3 _ _ _ hx7).trans rfl⟩, ?_⟩
  refine wpAnyH_done (by kernel_rfl) ?_ _
  clear HS hw7 hx7 HTH HK6 HM6 HP6 HX6 HRF6
  go_wp2_with fail
  (try dsimp only [Act.put, List.setIfInBounds_toArray, List.set_cons_zero, List.set_cons_succ])
  obtain ⟨A2, hA2⟩ : ∃ A2 : Ad, A2 = { A1 with now := doF A1.now c } := ⟨_, rfl⟩
  rw [← hA2] at HK7
  have HA2 := Lib.hid hA2
  obtain ⟨w8, hw8⟩ : ∃ w8, w8 = World.drew w7 := ⟨_, rfl⟩
  have HK8 := Lib.hid (show RDK G B m lv A2 w8 from by rw [hw8]; exact HK7.out.below (Below.refl _ _).drew)
  have HM8 := Lib.hid (show Mv1 m lv lv w0 w8 from by rw [hw8]; exact HM7.out.trans (MvR.ofBelow (Below.refl _ _).drew))
  have HP8 := Lib.hid (show RB (NR G m lv) w8 ta tn tc c.p from by rw [hw8]; exact HP7.out.below (Below.refl _ _).drew)
  have hx8 : w8.heap[X]? = some (.cells #[.int .i64 (c.kind : Int), .string c.a, .string c.b, .slice ta tn tc] 94 (0, 0)) := by rw [hw8]; exact HX7.out
  have HX8 := Lib.hid hx8
  have HF8 := Lib.hid (show ∀ k, G k → k < w8.heap.size from fun k hk => Nat.lt_of_lt_of_le (HG0.out k hk) HM8.out.size1)
  have HXS := Lib.hid (show X < w8.heap.size from (Array.getElem?_eq_some_iff.1 hx8).1)
  have HXN := Lib.hid (show ¬ OwnR m lv X from fun ho => by
    rcases ho with rfl | ho
    · obtain ⟨_, _, _, _, _, _, h1, _⟩ := HK8.out.hd
      rw [h1] at hx8
      simp only [Option.some.injEq, Obj.cells.injEq] at hx8
      exact absurd hx8.2.1 (by decide)
    · exact HXL.out ho)
  obtain ⟨la, ln, lc, hlv⟩ : ∃ la ln lc, lv = .slice la ln lc := by
    obtain ⟨ps, _, h2, _⟩ := HK8.out.hl
    rcases h2.2 with ⟨h1, _⟩ | ⟨g, cap, cur, h1, _⟩
    · exact ⟨_, _, _, h1⟩
    · exact ⟨_, _, _, h1⟩
  have HLV := Lib.hid hlv
  have HLL := Lib.hid (show A2.loose.length + 1 ≤ 1000000000 from by rw [hA2]; show A1.loose.length + 1 ≤ _; rw [HN1.out.2]; exact hll)
  have HS := Lib.hid (show World.cell? w8 ⟨X, 0, none⟩ = some (.int .i64 (c.kind : Int)) ∧ World.cell? w8 ⟨X, 1, none⟩ = some (.string c.a) ∧ World.cell? w8 ⟨X, 2, none⟩ = some (.string c.b) ∧ World.cell? w8 ⟨X, 3, none⟩ = some (.slice ta tn tc) from ⟨(cell_of_row w8 X 0 _ _ _ hx8).trans rfl, (cell_of_row w8 X 1 _ _ _ hx8).trans rfl, (cell_of_row w8 X 2 _ _ _ hx8).trans rfl, (cell_of_row w8 X 3 _ _ _ hx8).trans rfl⟩)
  have HL2 := Lib.hid (fun W (hW : World.cell? W ⟨X, 0, none⟩ = some (.int .i64 (c.kind : Int)) ∧ World.cell? W ⟨X, 1, none⟩ = some (.string c.a) ∧ World.cell? W ⟨X, 2, none⟩ = some (.string c.b) ∧ World.cell? W ⟨X, 3, none⟩ = some (.slice ta tn tc)) => run_cellsD W X _ _ _ _ _ _ hW)
  have HC3 := Lib.hid (show w8.cell? ⟨m, 3, none⟩ = some (.slice la ln lc) from by
    obtain ⟨_, _, _, _, _, _, ⟨-, -, -, d3, -⟩, -⟩ := HK8.out.cells
    rw [d3, hlv])
  refine anyH_begin (S := fun W => World.cell? W ⟨X, 0, none⟩ = some (.int .i64 (c.kind : Int)) ∧ World.cell? W ⟨X, 1, none⟩ = some (.string c.a) ∧ World.cell? W ⟨X, 2, none⟩ = some (.string c.b) ∧ World.cell? W ⟨X, 3, none⟩ = some (.slice ta tn tc)) (by kernel_rfl) ?_
  rw [← hw8]
  clear hA2 hw8 hx8 hlv HK7 HM7 HP7 HX7
  refine anyH_pureG 0 (d := 32) (op := .move (.tmp 0)) (gd := none) (.pointer (some ⟨m, 0, none⟩)) (by rfl) (fun o ho => wanted_plain ho _) (by kernel_rfl) (by kernel_rfl) (by kernel_rfl) (fun _ _ _ h => h) (fun o ho W hW => by unfold execOp; simp only [ho]; go_simp) HS.out ?_
  simp only [Act.put, List.setIfInBounds_toArray, List.set_cons_zero, List.set_cons_succ]
  refine anyH_pureG 1 (d := 33) (op := .move (.tmp 0)) (gd := none) (.pointer (some ⟨m, 0, none⟩)) (by rfl) (fun o ho => wanted_plain ho _) (by kernel_rfl) (by kernel_rfl) (by kernel_rfl) (fun _ _ _ h => h) (fun o ho W hW => by unfold execOp; simp only [ho]; go_simp) HS.out ?_
  simp only [Act.put, List.setIfInBounds_toArray, List.set_cons_zero, List.set_cons_succ]
  refine anyH_pureG 2 (d := 34) (op := .nilCheck (.tmp 33)) (gd := none) (.pointer (some ⟨m, 0, none⟩)) (by rfl) (fun o ho => wanted_plain ho _) (by kernel_rfl) (by kernel_rfl) (by kernel_rfl) (fun _ _ _ h => h) (fun o ho W hW => by unfold execOp; simp only [ho]; go_simp) HS.out ?_
  simp only [Act.put, List.setIfInBounds_toArray, List.set_cons_zero, List.set_cons_succ]
  refine anyH_pureG 3 (d := 35) (op := .fieldAddr 91 (.tmp 34) 3) (gd := none) (.pointer (some ⟨m, 3, none⟩)) (by rfl) (fun o ho => wanted_plain ho _) (by kernel_rfl) (by kernel_rfl) (by kernel_rfl) (fun _ _ _ h => h) (fun o ho W hW => by unfold execOp; simp only [ho]; go_simp) HS.out ?_
  simp only [Act.put, List.setIfInBounds_toArray, List.set_cons_zero, List.set_cons_succ]
  refine anyH_loadG 5 (d := 37) (ty := 94) (x := (.tmp 3)) (gd := none) (p := .pointer (some ⟨X, 0, none⟩)) (.agg #[.int .i64 (c.kind : Int), .string c.a, .string c.b, .slice ta tn tc]) (by rfl) (fun o ho => wanted_plain ho _) (by kernel_rfl) (by kernel_rfl) (by kernel_rfl) (fun _ _ _ h => h) (by rfl) HL2.out HS.out ?_
  simp only [Act.put, List.setIfInBounds_toArray, List.set_cons_zero, List.set_cons_succ]
  refine wpAnyH_all (rs := [4, 6]) (by kernel_rfl) (by simp) ?_
  intro k hk
  simp only [List.mem_cons, List.not_mem_nil, or_false] at hk
  rcases hk with rfl | rfl
  · refine op_atJ 4 (d := some 36) (op := .load 89 (.tmp 35)) (by rfl) ?_
    intro o4 hod4 hoo4
    refine wp_load_g 89 (.tmp 35) hoo4 (.pointer (some ⟨m, 3, none⟩)) (.slice la ln lc) (by rfl) (run_cell_cs _ ⟨m, 3, none⟩ _ _ _ (HC3.out)) ?_
    rw [hod4]
    clear hod4 hoo4
    simp only [Act.put, List.setIfInBounds_toArray, List.set_cons_zero, List.set_cons_succ]
    refine ⟨HS.out, ?_⟩
    refine wpAnyH_all (rs := [6]) (by kernel_rfl) (by simp) ?_
    intro k hk; simp only [List.mem_cons, List.not_mem_nil, or_false] at hk; subst hk
    refine op_atJ 6 (d := some 38) (op := .buildSlice 89 1 #[(0, (.tmp 37))]) (by rfl) ?_
    intro o5 hod5 hoo5
    refine wp_bsD (.tmp 37) hoo5 _ _ _ _ _ _ (by rfl) ?_
    rw [hod5]
    clear hod5 hoo5
    simp only [Act.put, List.setIfInBounds_toArray, List.set_cons_zero, List.set_cons_succ]
    refine ⟨(show World.cell? _ ⟨X, 0, none⟩ = some (.int .i64 (c.kind : Int)) ∧ World.cell? _ ⟨X, 1, none⟩ = some (.string c.a) ∧ World.cell? _ ⟨X, 2, none⟩ = some (.string c.b) ∧ World.cell? _ ⟨X, 3, none⟩ = some (.slice ta tn tc) from by obtain ⟨y0, y1, y2, y3⟩ := HS.out; have hb := (Below.refl _ _).alloc (Nat.le_refl w8.heap.size) (.cells #[.int .i64 (c.kind : Int), .string c.a, .string c.b, .slice ta tn tc] 94); exact ⟨(hb.cell (p := ⟨X, 0, none⟩) HXS.out).trans y0, (hb.cell (p := ⟨X, 1, none⟩) HXS.out).trans y1, (hb.cell (p := ⟨X, 2, none⟩) HXS.out).trans y2, (hb.cell (p := ⟨X, 3, none⟩) HXS.out).trans y3⟩), ?_⟩
    clear HS
    refine wpAnyH_all (rs := [7]) (by kernel_rfl) (by simp) ?_
    intro k hk; simp only [List.mem_cons, List.not_mem_nil, or_false] at hk; subst hk
    refine op_atJ 7 (d := some 39) (op := .call { callee := .builtin .append, args := #[(.tmp 36), (.tmp 38)], argTypes := #[89, 89] }) (by rfl) ?_
    intro o6 hod6 hoo6
    refine wp_pushD (.tmp 36) (.tmp 38) hoo6 B m lv A2 c ta tn tc HK8.out HF8.out ⟨_, _, _, rfl, HP8.out⟩ HLV.out.symm (by rfl) HLL.out ?_
    intro va vn vc w9 c9 f9 hk9 hm9
    have HK9 := Lib.hid hk9
    have HM9 := Lib.hid (HM8.out.trans hm9)
    have HT7 := Lib.hid (show w9.there m 3 1 from fun j hj => by
      obtain rfl : j = 0 := by omega
      exact ⟨by rw [Nat.add_zero, c9]; rfl, f9⟩)
    have HS := Lib.hid (show World.cell? w9 ⟨X, 0, none⟩ = some (.int .i64 (c.kind : Int)) ∧ World.cell? w9 ⟨X, 1, none⟩ = some (.string c.a) ∧ World.cell? w9 ⟨X, 2, none⟩ = some (.string c.b) ∧ World.cell? w9 ⟨X, 3, none⟩ = some (.slice ta tn tc) from by
      have e9 := hm9.block X HXS.out HXN.out
      rw [Below.heap_setCell w9 ⟨m, 3, none⟩ _ X (show X ≠ m from fun e => HXN.out (.inl e))] at e9
      have q : ∀ i, w9.cell? ⟨X, i, none⟩ = w8.cell? ⟨X, i, none⟩ := fun i => World.cell?_of_block e9
      have hx := HX8.out
      exact ⟨(q 0).trans ((cell_of_row w8 X 0 _ _ _ hx).trans rfl), (q 1).trans ((cell_of_row w8 X 1 _ _ _ hx).trans rfl), (q 2).trans ((cell_of_row w8 X 2 _ _ _ hx).trans rfl), (q 3).trans ((cell_of_row w8 X 3 _ _ _ hx).trans rfl)⟩)
    have HXD := Lib.hid (show X ≠ m from fun e => HXN.out (.inl e))
    rw [hod6]
    clear hod6 hoo6 hk9 hm9 c9 f9
    simp only [Act.put, List.setIfInBounds_toArray, List.set_cons_zero, List.set_cons_succ]
    refine ⟨HS.out, ?_⟩
    refine anyH_pureG 8 (d := 40) (op := .nilCheck (.tmp 32)) (gd := none) (.pointer (some ⟨m, 0, none⟩)) (by rfl) (fun o ho => wanted_plain ho _) (by kernel_rfl) (by kernel_rfl) (by kernel_rfl) (fun _ _ _ h => h) (fun o ho W hW => by unfold execOp; simp only [ho]; go_simp) HS.out ?_
    simp only [Act.put, List.setIfInBounds_toArray, List.set_cons_zero, List.set_cons_succ]
    refine anyH_pureG 9 (d := 41) (op := .fieldAddr 91 (.tmp 40) 3) (gd := none) (.pointer (some ⟨m, 3, none⟩)) (by rfl) (fun o ho => wanted_plain ho _) (by kernel_rfl) (by kernel_rfl) (by kernel_rfl) (fun _ _ _ h => h) (fun o ho W hW => by unfold execOp; simp only [ho]; go_simp) HS.out ?_
    simp only [Act.put, List.setIfInBounds_toArray, List.set_cons_zero, List.set_cons_succ]
    refine wpAnyH_all (rs := [10]) (by kernel_rfl) (by simp) ?_
    intro k hk; simp only [List.mem_cons, List.not_mem_nil, or_false] at hk; subst hk
    refine op_atJ 10 (d := none) (op := .store 89 (.tmp 41) (.tmp 39)) (by rfl) ?_
    intro o7 hod7 hoo7
    refine wp_store_one 89 (.tmp 41) (.tmp 39) hoo7 m 3 (.slice va vn vc) (by rfl) (by rfl) HT7.out (by kernel_rfl) (by rfl) (by rfl) ?_
    rw [hod7]
    clear hod7 hoo7
    simp only [Act.put, List.setIfInBounds_toArray, List.set_cons_zero, List.set_cons_succ]
    refine ⟨by obtain ⟨y0, y1, y2, y3⟩ := HS.out; have q : ∀ i, (w9.setCells m 3 [.slice va vn vc]).cell? ⟨X, i, none⟩ = w9.cell? ⟨X, i, none⟩ := fun i => World.cell?_of_block (one_heap HXD.out); exact ⟨(q 0).trans y0, (q 1).trans y1, (q 2).trans y2, (q 3).trans y3⟩, ?_⟩
    refine wpAnyH_done (by kernel_rfl) ?_ _
    clear HS HT7 HL2
    obtain ⟨w10, hw10⟩ : ∃ w10, w10 = w9.setCells m 3 [.slice va vn vc] := ⟨_, rfl⟩
    have HK10 := Lib.hid (show RDK G B m (.slice va vn vc) { A2 with loose := A2.loose ++ [c] } w10 from by rw [hw10]; exact HK9.out)
    have HM10 := Lib.hid (show Mv1 m lv (.slice va vn vc) w0 w10 from by rw [hw10]; exact HM9.out)
    rw [← hw10]
    clear hw10 HK9 HM9 HK8 HM8
    go_wp2_with fail
    go_ret
    have hk10 := HK10.out
    rw [HDID.out A2 HA2.out] at hk10
    exact ⟨by first | rfl | trivial, _, hk10.weak HWK.out, HM10.out.toMvR⟩
  · refine op_atJ 6 (d := some 38) (op := .buildSlice 89 1 #[(0, (.tmp 37))]) (by rfl) ?_
    intro o5 hod5 hoo5
    refine wp_bsD (.tmp 37) hoo5 _ _ _ _ _ _ (by rfl) ?_
    rw [hod5]
    clear hod5 hoo5
    simp only [Act.put, List.setIfInBounds_toArray, List.set_cons_zero, List.set_cons_succ]
    refine ⟨(show World.cell? _ ⟨X, 0, none⟩ = some (.int .i64 (c.kind : Int)) ∧ World.cell? _ ⟨X, 1, none⟩ = some (.string c.a) ∧ World.cell? _ ⟨X, 2, none⟩ = some (.string c.b) ∧ World.cell? _ ⟨X, 3, none⟩ = some (.slice ta tn tc) from by obtain ⟨y0, y1, y2, y3⟩ := HS.out; have hb := (Below.refl _ _).alloc (Nat.le_refl w8.heap.size) (.cells #[.int .i64 (c.kind : Int), .string c.a, .string c.b, .slice ta tn tc] 94); exact ⟨(hb.cell (p := ⟨X, 0, none⟩) HXS.out).trans y0, (hb.cell (p := ⟨X, 1, none⟩) HXS.out).trans y1, (hb.cell (p := ⟨X, 2, none⟩) HXS.out).trans y2, (hb.cell (p := ⟨X, 3, none⟩) HXS.out).trans y3⟩), ?_⟩
    refine wpAnyH_all (rs := [4]) (by kernel_rfl) (by simp) ?_
    intro k hk; simp only [List.mem_cons, List.not_mem_nil, or_false] at hk; subst hk
    refine op_atJ 4 (d := some 36) (op := .load 89 (.tmp 35)) (by rfl) ?_
    intro o4 hod4 hoo4
    refine wp_load_g 89 (.tmp 35) hoo4 (.pointer (some ⟨m, 3, none⟩)) (.slice la ln lc) (by rfl) (run_cell_cs _ ⟨m, 3, none⟩ _ _ _ (((Below.refl _ _).alloc (Nat.le_refl w8.heap.size) (.cells #[.int .i64 (c.kind : Int), .string c.a, .string c.b, .slice ta tn tc] 94)).cell (p := ⟨m, 3, none⟩) HK8.out.lt |>.trans HC3.out)) ?_
    rw [hod4]
    clear hod4 hoo4
    simp only [Act.put, List.setIfInBounds_toArray, List.set_cons_zero, List.set_cons_succ]
    refine ⟨(show World.cell? _ ⟨X, 0, none⟩ = some (.int .i64 (c.kind : Int)) ∧ World.cell? _ ⟨X, 1, none⟩ = some (.string c.a) ∧ World.cell? _ ⟨X, 2, none⟩ = some (.string c.b) ∧ World.cell? _ ⟨X, 3, none⟩ = some (.slice ta tn tc) from by obtain ⟨y0, y1, y2, y3⟩ := HS.out; have hb := (Below.refl _ _).alloc (Nat.le_refl w8.heap.size) (.cells #[.int .i64 (c.kind : Int), .string c.a, .string c.b, .slice ta tn tc] 94); exact ⟨(hb.cell (p := ⟨X, 0, none⟩) HXS.out).trans y0, (hb.cell (p := ⟨X, 1, none⟩) HXS.out).trans y1, (hb.cell (p := ⟨X, 2, none⟩) HXS.out).trans y2, (hb.cell (p := ⟨X, 3, none⟩) HXS.out).trans y3⟩), ?_⟩
    clear HS
    refine wpAnyH_all (rs := [7]) (by kernel_rfl) (by simp) ?_
    intro k hk; simp only [List.mem_cons, List.not_mem_nil, or_false] at hk; subst hk
    refine op_atJ 7 (d := some 39) (op := .call { callee := .builtin .append, args := #[(.tmp 36), (.tmp 38)], argTypes := #[89, 89] }) (by rfl) ?_
    intro o6 hod6 hoo6
    refine wp_pushD (.tmp 36) (.tmp 38) hoo6 B m lv A2 c ta tn tc HK8.out HF8.out ⟨_, _, _, rfl, HP8.out⟩ HLV.out.symm (by rfl) HLL.out ?_
    intro va vn vc w9 c9 f9 hk9 hm9
    have HK9 := Lib.hid hk9
    have HM9 := Lib.hid (HM8.out.trans hm9)
    have HT7 := Lib.hid (show w9.there m 3 1 from fun j hj => by
      obtain rfl : j = 0 := by omega
      exact ⟨by rw [Nat.add_zero, c9]; rfl, f9⟩)
    have HS := Lib.hid (show World.cell? w9 ⟨X, 0, none⟩ = some (.int .i64 (c.kind : Int)) ∧ World.cell? w9 ⟨X, 1, none⟩ = some (.string c.a) ∧ World.cell? w9 ⟨X, 2, none⟩ = some (.string c.b) ∧ World.cell? w9 ⟨X, 3, none⟩ = some (.slice ta tn tc) from by
      have e9 := hm9.block X HXS.out HXN.out
      rw [Below.heap_setCell w9 ⟨m, 3, none⟩ _ X (show X ≠ m from fun e => HXN.out (.inl e))] at e9
      have q : ∀ i, w9.cell? ⟨X, i, none⟩ = w8.cell? ⟨X, i, none⟩ := fun i => World.cell?_of_block e9
      have hx := HX8.out
      exact ⟨(q 0).trans ((cell_of_row w8 X 0 _ _ _ hx).trans rfl), (q 1).trans ((cell_of_row w8 X 1 _ _ _ hx).trans rfl), (q 2).trans ((cell_of_row w8 X 2 _ _ _ hx).trans rfl), (q 3).trans ((cell_of_row w8 X 3 _ _ _ hx).trans rfl)⟩)
    have HXD := Lib.hid (show X ≠ m from fun e => HXN.out (.inl e))
    rw [hod6]
    clear hod6 hoo6 hk9 hm9 c9 f9
    simp only [Act.put, List.setIfInBounds_toArray, List.set_cons_zero, List.set_cons_succ]
    refine ⟨HS.out, ?_⟩
    refine anyH_pureG 8 (d := 40) (op := .nilCheck (.tmp 32)) (gd := none) (.pointer (some ⟨m, 0, none⟩)) (by rfl) (fun o ho => wanted_plain ho _) (by kernel_rfl) (by kernel_rfl) (by kernel_rfl) (fun _ _ _ h => h) (fun o ho W hW => by unfold execOp; simp only [ho]; go_simp) HS.out ?_
    simp only [Act.put, List.setIfInBounds_toArray, List.set_cons_zero, List.set_cons_succ]
    refine anyH_pureG 9 (d := 41) (op := .fieldAddr 91 (.tmp 40) 3) (gd := none) (.pointer (some ⟨m, 3, none⟩)) (by rfl) (fun o ho => wanted_plain ho _) (by kernel_rfl) (by kernel_rfl) (by kernel_rfl) (fun _ _ _ h => h) (fun o ho W hW => by unfold execOp; simp only [ho]; go_simp) HS.out ?_
    simp only [Act.put, List.setIfInBounds_toArray, List.set_cons_zero, List.set_cons_succ]
    refine wpAnyH_all (rs := [10]) (by kernel_rfl) (by simp) ?_
    intro k hk; simp only [List.mem_cons, List.not_mem_nil, or_false] at hk; subst hk
    refine op_atJ 10 (d := none) (op := .store 89 (.tmp 41) (.tmp 39)) (by rfl) ?_
    intro o7 hod7 hoo7
    refine wp_store_one 89 (.tmp 41) (.tmp 39) hoo7 m 3 (.slice va vn vc) (by rfl) (by rfl) HT7.out (by kernel_rfl) (by rfl) (by rfl) ?_
    rw [hod7]
    clear hod7 hoo7
    simp only [Act.put, List.setIfInBounds_toArray, List.set_cons_zero, List.set_cons_succ]
    refine ⟨by obtain ⟨y0, y1, y2, y3⟩ := HS.out; have q : ∀ i, (w9.setCells m 3 [.slice va vn vc]).cell? ⟨X, i, none⟩ = w9.cell? ⟨X, i, none⟩ := fun i => World.cell?_of_block (one_heap HXD.out); exact ⟨(q 0).trans y0, (q 1).trans y1, (q 2).trans y2, (q 3).trans y3⟩, ?_⟩
    refine wpAnyH_done (by kernel_rfl) ?_ _
    clear HS HT7 HL2
    obtain ⟨w10, hw10⟩ : ∃ w10, w10 = w9.setCells m 3 [.slice va vn vc] := ⟨_, rfl⟩
    have HK10 := Lib.hid (show RDK G B m (.slice va vn vc) { A2 with loose := A2.loose ++ [c] } w10 from by rw [hw10]; exact HK9.out)
    have HM10 := Lib.hid (show Mv1 m lv (.slice va vn vc) w0 w10 from by rw [hw10]; exact HM9.out)
    rw [← hw10]
    clear hw10 HK9 HM9 HK8 HM8
    go_wp2_with fail
    go_ret
    have hk10 := HK10.out
    rw [HDID.out A2 HA2.out] at hk10
    exact ⟨by first | rfl | trivial, _, hk10.weak HWK.out, HM10.out.toMvR⟩
end Go.Proofs.Ytcjlbonflecbkaa
namespace Go.Proofs.Ytcjlbonflecbkaa
open Go.RowKit
set_option linter.unusedVariables false
theorem begins_eq {s h : ByteArray} (hl : h.size ≤ s.size) : ((s.extract 0 h.size).toList == h.toList) = hasP h s := by
  have hh : h.data.toList.length = h.size := rfl
  rw [Lib.toList_data, Lib.toList_data, Lib.extract_data]
  unfold hasP Lib.hasPrefix
  rw [Bool.eq_iff_iff, List.isPrefixOf_iff_prefix, List.prefix_iff_eq_take, beq_iff_eq, hh]
  simp only [List.drop_zero, Nat.sub_zero]
  exact eq_comm
theorem begins_no {s h : ByteArray} (hl : ¬ h.size ≤ s.size) : false = hasP h s := by
  have hh : h.data.toList.length = h.size := rfl
  have hs : s.data.toList.length = s.size := rfl
  unfold hasP Lib.hasPrefix
  cases e : h.data.toList.isPrefixOf s.data.toList with
  | false => rfl
  | true =>
    have := (List.isPrefixOf_iff_prefix.1 e).length_le
    omega
set_option maxRecDepth 100000 in
set_option maxHeartbeats 8000000 in
theorem rbegins_c (s h : ByteArray) (w : World) (hs : s.size ≤ maxLen) (hh : h.size ≤ maxLen) : Calls Try.prog 73 #[.string s, .string h] w fun e w' => e = .returned (.bool (hasP h s)) ∧ w' = w := by
  unfold maxLen at hs hh
  by_cases hl : h.size ≤ s.size
  · have i1 : (h.size : Int) ≤ (s.size : Int) := by omega
    go_enter Try.func73, Try.ntmps73
    go_wp2_with fail
    go_ret
    refine ⟨?_, rfl⟩
    exact congrArg (fun x => Ending.returned (.bool x)) (begins_eq hl)
  · have i1 : ¬ (h.size : Int) ≤ (s.size : Int) := by omega
    go_enter Try.func73, Try.ntmps73
    go_wp2_with fail
    go_ret
    refine ⟨?_, rfl⟩
    exact congrArg (fun x => Ending.returned (.bool x)) (begins_no hl)
end Go.Proofs.Ytcjlbonflecbkaa
