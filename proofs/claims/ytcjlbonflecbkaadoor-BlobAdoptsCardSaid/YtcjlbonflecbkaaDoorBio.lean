/-
  The walk over BlobOnce: bytes that are there already are put without a step.
-/
import Derived.Test.YtcjlbonflecbkaaDoorBim
namespace Go.Proofs.YtcjlbonflecbkaaDoor
open Go.RowKit
set_option linter.unusedVariables false
theorem wraps1 (z : Int) (n : Nat) (hn : n ≤ 1000000000) : IntKind.u64.wrap ((n : Int) + 1) = (n : Int) + 1 ∧ ¬ ((n : Int) + 1 = 0) ∧ ∃ q : Nat, q ≤ n ∧ wrap64 ((IntKind.u64.wrap z).tmod ((n : Int) + 1)) = (q : Int) := by
  have e : IntKind.u64.wrap ((n : Int) + 1) = (n : Int) + 1 := by simp [IntKind.wrap, IntKind.bits, IntKind.signed]; omega
  refine ⟨e, by omega, ?_⟩
  have h1 : 0 ≤ IntKind.u64.wrap z := by simp [IntKind.wrap, IntKind.bits, IntKind.signed]; omega
  obtain ⟨t, ht⟩ := Int.eq_ofNat_of_zero_le h1
  rw [ht]
  have h2 : ((t : Int)).tmod ((n : Int) + 1) = ((t % (n + 1) : Nat) : Int) := by
    rw [show ((n : Int) + 1) = ((n + 1 : Nat) : Int) by omega, Int.ofNat_tmod]
  have h3 := Nat.mod_lt t (show 0 < n + 1 by omega)
  refine ⟨t % (n + 1), by omega, ?_⟩
  rw [h2]
  unfold wrap64
  omega
theorem wpList_runG {ops : Array Oper} {rest : List Oper} {o : Oper} {a : Act} {w : World} {Q : Exit → Act → World → Prop} (hw : Region.wanted o (yielded ops a.tmps) = true) (v : Value) (hr : (execOp a.eval o).run Tryd.prog w = .ok (.value v) w) (h : wpList Tryd.prog ops Q rest (a.put o.dst v) w) : wpList Tryd.prog ops Q (o :: rest) a w := by
  refine wpList_step fun K hK => ?_
  rw [if_pos hw]
  unfold Oper.wp
  rw [hr]
  exact hK _ _ h
theorem exec_midB {a : Option Addr} {len cap k M j : Nat} (hk : k ≤ M) (hM : M ≤ cap) (hj : M - k = j) {A : Act} {x y z : Operand} {t : Int} (ht : t = (M : Int)) (hx : A.eval x = .slice a len cap) (hy : A.eval y = .int .i64 (k : Int)) (hz : A.eval z = .int .i64 t) (o : Oper) (ho : o.op = .slice 33 x (some y) (some z) none) (W : World) :
    (execOp A.eval o).run Tryd.prog W = .ok (.value (.slice (sla a cap k) j (cap - k))) W := by
  subst ht
  subst hj
  unfold execOp
  simp only [ho, hx, hy, hz, Option.map_none, Option.map_some]
  rw [Sem.run_bind, run_midAt W a len cap k M hk hM]
  rfl
theorem rd_blkB {W : World} {a : Option Addr} {n : Nat} {z : List Nat} (h : Rd W a n z) {b o : Nat} {s : Option _} (e : a = some ⟨b, o, s⟩) (hn : n ≠ 0) : b < W.heap.size := by
  obtain ⟨b', off, h1, h2, _⟩ := h.2.2.resolve_left hn
  rw [h1] at e
  cases e
  exact h2
theorem Dx.fuse {X : Nat → Prop} {B d N : Nat} {A : Ad} {w : World} (h : Dx X B d N A w) (n : Int) (hn : n ≤ 9223372036854775807) : Calls Tryd.prog 15 #[.pointer (some ⟨d, 0, none⟩), .int .i64 n] w (DxR X B d N w (A.fused n)) := h.call fun S h1 h2 _ => afuse h1 h2 n hn
theorem Bs.of {X : Nat → Prop} {B d sb N : Nat} {A A' : Ad} {w w' : World} (h : Bs X B d sb N A w) (h1 : Dx X B d N A' w') (hk : KpD X w w') : Bs X B d sb N A' w' := ⟨h1, h.sx, (World.cell?_of_block (hk sb h.sx)).trans h.st⟩
theorem Bs.withB {X : Nat → Prop} {B d sb N : Nat} {A : Ad} {w w' : World} (h : Bs X B d sb N A w) (hb : Below w.heap.size w w') (g : Nat) (hg : w.heap.size ≤ g) (hl : g < w'.heap.size) : Bs (fun j => X j ∨ j = g) B d sb N A w' :=
  ⟨h.dx.belowY hb (fun j hj => hj.imp id fun e => by omega) (fun j hj => by
    rcases hj with hj | rfl
    · exact Nat.lt_of_lt_of_le (h.dx.lt j hj) hb.size
    · exact hl), .inl h.sx, (hb.cell (p := ⟨sb, 0, none⟩) (h.dx.lt sb h.sx)).trans h.st⟩
structure Rw9 (XA XB : Nat) (ds : List Nat) (W : World) : Prop where
  ra : Brow W XA 37 ds
  rb : Brow W XB 37 ds
theorem Rw9.below {XA XB : Nat} {ds : List Nat} {W W' : World} (h : Rw9 XA XB ds W) (hb : Below W.heap.size W W') : Rw9 XA XB ds W' := ⟨h.ra.below hb h.ra.lt, h.rb.below hb h.rb.lt⟩
def filled (room : Int) (f : Int) (s : ByteArray) (z : List Nat) : Ad := ⟨room, f, false, [(s, z)], [(s, z)], []⟩
set_option maxRecDepth 100000 in
set_option maxHeartbeats 8000000 in
theorem bonce_c (a0 : Option Addr) (len0 cap0 : Nat) (z0 : List Nat) (a1 a2 : Int) (w : World) (r0 : BytesIn w a0 len0 cap0 z0) (r1 : (Lit.int .i64 a1).wf = true) (r2 : (Lit.int .i64 a2).wf = true) (ht : Tab w) :
    Calls Tryd.prog 4 #[.slice a0 len0 cap0, .int .i64 a1, .int .i64 a2] w fun e w' => e = .returned (.bool true) ∧ Below w.heap.size w w' := by
  obtain ⟨hr, hnil, hlc, hcm⟩ := r0
  obtain ⟨ds, hds⟩ : ∃ ds, Sha.sum z0 = ds := ⟨_, rfl⟩
  have hD : D32 ds := by rw [← hds]; exact ⟨sum_len _, sum_byte _⟩
  have HDS := Lib.hid hds
  have HD32 := Lib.hid hD
  have HT := Lib.hid ht
  have HR := Lib.hid hr
  have HNIL := Lib.hid hnil
  have HD := Lib.hid (dnew_c 2097152 w (by omega) (by omega))
  have HI32D := Lib.hid (show (Tryd.prog.info? 37).map (·.size) = some (cellsOf ds).toArray.size from by rw [cellsOf_size, hD.1]; exact info_dig)
  have HSZD := Lib.hid (show (cellsOf zs32).toArray.size = (cellsOf ds).toArray.size from by rw [cellsOf_size, cellsOf_size, zs32_len, hD.1])
  have HGT := Lib.hid (show Tryd.prog.eqGuardType Tryd.prog.depth 37 = false from by kernel_rfl)
  have HEQ := Lib.hid (fun W => show (Op.equalIn 10000 37 (.agg (cellsOf ds).toArray) (.agg (cellsOf ds).toArray)).run Tryd.prog W = .ok true W from by
    have := eq_dig 37 32 Tryd.underlying37 W ds ds hD.1 hD.1 hD.2 hD.2
    simpa using this)
  have HZL := Lib.hid hr.1
  clear hds hD ht hr hnil r1 r2
  go_enter Tryd.func4, Tryd.ntmps4
  go_wp2_with fail
  refine HD.out.mono ?_
  rintro e1 w1 ⟨rfl, hk1, hb1⟩
  obtain ⟨d, hd⟩ : ∃ d, d = w.heap.size := ⟨_, rfl⟩
  have hdx1 : Dx (fun _ => False) w.heap.size d 0 (fresh 2097152 []) w1 := ⟨⟨newS 2097152, by rw [hd]; exact hk1, anewS 2097152 (by omega) (by omega), fun j hj => hj.elim⟩, fun j hj => hj.elim⟩
  rw [← hd]
  have HNW := Lib.hid (bnew_ok hdx1 (by omega) hb1.size rfl rfl)
  have HB1 := Lib.hid hb1
  clear hk1 hb1 hdx1 HD hd
  go_wp2_with fail
  refine HNW.out.mono ?_
  rintro e2 w2 ⟨rfl, hbs2, hb2, -⟩
  obtain ⟨sb, hsb⟩ : ∃ sb, sb = w1.heap.size := ⟨_, rfl⟩
  rw [← hsb] at hbs2 ⊢
  have HBS2 := Lib.hid hbs2
  have HB2 := Lib.hid (HB1.out.trans hb2)
  have HAW := Lib.hid (awake12_c w2 (Tab.below HT.out HB2.out HT.out.pos))
  clear hbs2 hb2 HNW HB1 hsb
  go_wp2_with fail
  refine HAW.out.mono ?_
  rintro e3 w3 ⟨rfl, hb3⟩
  have HBS3 := Lib.hid (HBS2.out.below hb3)
  have HB3 := Lib.hid (HB2.out.trans (hb3.mono HB2.out.size))
  clear hb3 HAW HBS2 HB2
  by_cases hbig : 1048576 < (len0 : Int)
  · have HAW := Lib.hid (awake12_c w3 (Tab.below HT.out HB3.out HT.out.pos))
    go_wp2_with fail
    refine HAW.out.mono ?_
    rintro e4 w4 ⟨rfl, hb4⟩
    have HE := Lib.hid (HB3.out.trans (hb4.mono HB3.out.size))
    clear hb4 HAW
    go_wp2_with fail
    go_ret
    exact ⟨rfl, HE.out⟩
  · have hsm : len0 ≤ 1048576 := by omega
    have hzl := HZL.out
    have hp1 := bput_c HBS3.out (Tab.below HT.out HB3.out HT.out.pos) (by omega) a0 len0 cap0 z0 (HR.out.below HB3.out) hlc (by omega) (fun b o s e hn => .inl (rd_blkB HR.out e hn)) HNIL.out HT.out.pos hsm
    rw [put_fresh (by omega) (by omega), HDS.out] at hp1
    have HP1 := Lib.hid hp1
    clear hp1 hzl
    go_wp2_with fail
    refine HP1.out.mono ?_
    rintro e4 w4 ⟨dz, hz, rfl, hbs4, hb4, -⟩
    obtain rfl : ds = dz := by
      rcases hz with ⟨_, h⟩ | ⟨h, _⟩
      · exact h.symm
      · exact absurd rfl h
    have HN4 := Lib.hid (show ∀ O : Obj, (w4.alloc O).heap[w4.heap.size]? = some O from fun O => heap_new w4 O)
    have HBS4 := Lib.hid hbs4
    have HB4 := Lib.hid (HB3.out.trans hb4)
    obtain ⟨XA, hXA⟩ : ∃ XA, XA = w4.heap.size := ⟨_, rfl⟩
    have HXA := Lib.hid hXA
    clear hbs4 hb4 HP1 hz hXA HBS3 HB3
    go_wp2_with (first | (refine wpList_store_row (by rfl) 37 _ _ (by rfl) w4.heap.size (cellsOf ds).toArray (by rfl) (by rfl) 37 (cellsOf zs32).toArray (by exact HN4.out _) HI32D.out HSZD.out (cellsOf_all _) ?_; refine gen_wpl (F := fun W => Brow W w4.heap.size 37 ds ∧ Below w4.heap.size w4 W) ⟨setRow_heap _ _ _ _ _ _ (HN4.out _), ((Below.refl w4.heap.size w4).alloc (Nat.le_refl _) _).setRow (Nat.le_refl _) _⟩ ?_; rintro w5 ⟨hx5, hb5⟩; have HX5 := Lib.hid hx5; have HB45 := Lib.hid hb5; clear hx5 hb5))
    rw [← HXA.out] at HX5 ⊢
    have hbs5 := HBS4.out.withB HB45.out XA (by rw [HXA.out]; exact Nat.le_refl _) HX5.out.lt
    have HF1 := Lib.hid (hbs5.dx.fuse 0 (by omega))
    have HBS5 := Lib.hid hbs5
    have HB5 := Lib.hid (HB4.out.trans (HB45.out.mono HB4.out.size))
    clear hbs5 HBS4 HB4 HB45 HN4
    go_wp2_with fail
    refine HF1.out.mono ?_
    rintro e6 w6 ⟨rfl, k1, k2, k3⟩
    have hbs6 := HBS5.out.of k1 k3
    have hb6 := HB5.out.trans k2
    have hlk : lookF ((fresh 2097152 [(fileB ds, z0)]).fused 0).1.now (fileB (Sha.sum z0)) = some z0 := by
      rw [HDS.out]
      show lookF [(fileB ds, z0)] (fileB ds) = some z0
      rw [look_one, if_pos rfl]
    have hp2 := bput_c hbs6 (Tab.below HT.out hb6 HT.out.pos) (by omega) a0 len0 cap0 z0 (HR.out.below hb6) hlc (by omega) (fun b o s e hn => .inl (rd_blkB HR.out e hn)) HNIL.out HT.out.pos hsm
    rw [put_there rfl hlk, HDS.out] at hp2
    have HP2 := Lib.hid hp2
    have HX6 := Lib.hid (show Brow w6 XA 37 ds from (k3 XA (.inr rfl)).trans HX5.out)
    have HB6 := Lib.hid hb6
    clear k1 k2 k3 hbs6 hb6 hlk hp2 HF1 HBS5 HB5 HX5 HXA
    go_wp2_with fail
    refine HP2.out.mono ?_
    rintro e7 w7 ⟨dz, hz, rfl, hbs7, hb7, hk7⟩
    obtain rfl : ds = dz := by
      rcases hz with ⟨_, h⟩ | ⟨h, _⟩
      · exact h.symm
      · exact absurd rfl h
    have HN7 := Lib.hid (show ∀ O : Obj, (w7.alloc O).heap[w7.heap.size]? = some O from fun O => heap_new w7 O)
    have HX7 := Lib.hid (show Brow w7 XA 37 ds from (hk7 XA (.inr rfl)).trans HX6.out)
    have HBS7 := Lib.hid hbs7
    have HB7 := Lib.hid (HB6.out.trans hb7)
    obtain ⟨XB, hXB⟩ : ∃ XB, XB = w7.heap.size := ⟨_, rfl⟩
    have HXB := Lib.hid hXB
    clear hbs7 hb7 hk7 hz hXB HP2 HB6 HX6
    go_wp2_with (first | (refine wpList_store_row (by rfl) 37 _ _ (by rfl) w7.heap.size (cellsOf ds).toArray (by rfl) (by rfl) 37 (cellsOf zs32).toArray (by exact HN7.out _) HI32D.out HSZD.out (cellsOf_all _) ?_; refine gen_wpl (F := fun W => Brow W w7.heap.size 37 ds ∧ Below w7.heap.size w7 W) ⟨setRow_heap _ _ _ _ _ _ (HN7.out _), ((Below.refl w7.heap.size w7).alloc (Nat.le_refl _) _).setRow (Nat.le_refl _) _⟩ ?_; rintro w8 ⟨hx8, hb8⟩; have HX8 := Lib.hid hx8; have HB78 := Lib.hid hb8; clear hx8 hb8))
    rw [← HXB.out] at HX8 ⊢
    have hbs8 := HBS7.out.withB HB78.out XB (by rw [HXB.out]; exact Nat.le_refl _) HX8.out.lt
    have HF2 := Lib.hid (hbs8.dx.fuse (-1) (by omega))
    have HBS8 := Lib.hid hbs8
    have HB8 := Lib.hid (HB7.out.trans (HB78.out.mono HB7.out.size))
    have HX8A := Lib.hid (HX7.out.below HB78.out HX7.out.lt)
    clear hbs8 HBS7 HB7 HB78 HN7 HX7
    go_wp2_with fail
    refine HF2.out.mono ?_
    rintro e8 w8b ⟨rfl, k1, k2, k3⟩
    have hbs9 := HBS8.out.of k1 k3
    have HBS := Lib.hid hbs9
    have HBW := Lib.hid (HB8.out.trans k2)
    have HROW := Lib.hid (show Rw9 XA XB ds w8b from ⟨(k3 XA (.inl (.inr rfl))).trans HX8A.out, (k3 XB (.inr rfl)).trans HX8.out⟩)
    clear k1 k2 k3 hbs9 HF2 HBS8 HB8 HX8A HX8 HXB
    go_wp2_with fail
    have HS := Lib.hid (show Rw9 XA XB ds (World.drew w8b) from HROW.out.below (below_drewN' _ w8b 1))
    have HLA := Lib.hid (show ∀ W, Rw9 XA XB ds W → (Instr.loadAt 37 (.pointer (some ⟨XA, 0, none⟩))).run Tryd.prog W = .ok (.agg (cellsOf ds).toArray) W from fun W hW => run_loadAt_mid W XA 0 37 (cellsOf ds) _ hW.ra.range Tryd.underlying37 rfl (by rw [cellsOf_length, HD32.out.1]; exact info_dig))
    have HLB := Lib.hid (show ∀ W, Rw9 XA XB ds W → (Instr.loadAt 37 (.pointer (some ⟨XB, 0, none⟩))).run Tryd.prog W = .ok (.agg (cellsOf ds).toArray) W from fun W hW => run_loadAt_mid W XB 0 37 (cellsOf ds) _ hW.rb.range Tryd.underlying37 rfl (by rw [cellsOf_length, HD32.out.1]; exact info_dig))
    have HSM := Lib.hid (show Calls Tryd.prog 10 #[.slice a0 len0 cap0] (World.drew w8b) (DigRet ds (World.drew w8b)) from by
      have hbd := HBW.out.trans (below_drewN' _ w8b 1)
      have := dsum_c a0 len0 cap0 z0 (World.drew w8b) (HR.out.below hbd) hlc (by omega) (by omega) (Tab.below HT.out hbd HT.out.pos)
      rwa [HDS.out] at this)
    have HUS := Lib.hid (fun (w9 : World) (h9 : Below (World.drew w8b).heap.size (World.drew w8b) w9) => show Calls Tryd.prog 20 #[.pointer (some ⟨d, 0, none⟩)] w9 fun e w' => e = .returned (.int .i64 (len0 : Int)) ∧ w' = w9 from by
      obtain ⟨S, k1, k2, _⟩ := (HBS.out.dx.below (w' := w9) ((below_drewN' _ w8b 1).trans h9)).ex
      have h1 := dused_c k1
      have h2 : S.used = (len0 : Int) := by
        rw [k2.used]
        show ((usedF [(fileB ds, z0)] : Nat) : Int) = _
        have h3 : usedF [(fileB ds, z0)] = z0.length := by simp [usedF]
        rw [h3, HZL.out]
      rw [h2] at h1
      exact h1)
    have hll : ((len0 : Int) != (len0 : Int)) = false := by simp
    refine anyH_begin (S := Rw9 XA XB ds) (by kernel_rfl) ?_
    refine anyH_pureG 0 (d := 54) (op := .move (.tmp 12)) (gd := none) (.int .i64 0) (by rfl) (fun o ho => wanted_plain ho _) (by kernel_rfl) (by kernel_rfl) (by kernel_rfl) (fun _ _ _ h => h) (fun o ho W hW => by unfold execOp; simp only [ho]; go_simp) HS.out ?_
    simp only [Act.put, List.setIfInBounds_toArray, List.set_cons_zero, List.set_cons_succ]
    refine anyH_pureG 1 (d := 55) (op := .binOp .neq 25 (.tmp 54) (.const (.int .i64 0)) 25) (gd := none) (.bool false) (by rfl) (fun o ho => wanted_plain ho _) (by kernel_rfl) (by kernel_rfl) (by kernel_rfl) (fun _ _ _ h => h) (fun o1 ho W hW => by unfold execOp; simp only [ho]; go_simp; try simp) HS.out ?_
    simp only [Act.put, List.setIfInBounds_toArray, List.set_cons_zero, List.set_cons_succ]
    refine anyH_pureG 2 (d := 56) (op := .move (.tmp 55)) (gd := none) (.bool false) (by rfl) (fun o ho => wanted_plain ho _) (by kernel_rfl) (by kernel_rfl) (by kernel_rfl) (fun _ _ _ h => h) (fun o ho W hW => by unfold execOp; simp only [ho]; go_simp) HS.out ?_
    simp only [Act.put, List.setIfInBounds_toArray, List.set_cons_zero, List.set_cons_succ]
    refine anyH_pureG 3 (d := 57) (op := .move (.tmp 14)) (gd := some (2, false)) (.int .i64 0) (by rfl) (fun o ho => by simp only [Region.wanted, ho]; rfl) (by kernel_rfl) (by kernel_rfl) (by kernel_rfl) (fun _ _ _ h => h) (fun o ho W hW => by unfold execOp; simp only [ho]; go_simp) HS.out ?_
    simp only [Act.put, List.setIfInBounds_toArray, List.set_cons_zero, List.set_cons_succ]
    refine anyH_pureG 4 (d := 58) (op := .binOp .neq 25 (.tmp 57) (.const (.int .i64 0)) 25) (gd := some (2, false)) (.bool false) (by rfl) (fun o ho => by simp only [Region.wanted, ho]; rfl) (by kernel_rfl) (by kernel_rfl) (by kernel_rfl) (fun _ _ _ h => h) (fun o1 ho W hW => by unfold execOp; simp only [ho]; go_simp; try simp) HS.out ?_
    simp only [Act.put, List.setIfInBounds_toArray, List.set_cons_zero, List.set_cons_succ]
    refine anyH_pureG 5 (d := 59) (op := .pick (.tmp 56) (.const (.bool true)) (.tmp 58)) (gd := none) (.bool false) (by rfl) (fun o ho => wanted_plain ho _) (by kernel_rfl) (by kernel_rfl) (by kernel_rfl) (fun _ _ _ h => h) (fun o ho W hW => by unfold execOp; simp only [ho]; go_simp) HS.out ?_
    simp only [Act.put, List.setIfInBounds_toArray, List.set_cons_zero, List.set_cons_succ]
    refine anyH_pureG 6 (d := 60) (op := .move (.tmp 59)) (gd := none) (.bool false) (by rfl) (fun o ho => wanted_plain ho _) (by kernel_rfl) (by kernel_rfl) (by kernel_rfl) (fun _ _ _ h => h) (fun o ho W hW => by unfold execOp; simp only [ho]; go_simp) HS.out ?_
    simp only [Act.put, List.setIfInBounds_toArray, List.set_cons_zero, List.set_cons_succ]
    refine anyH_loadG 7 (d := 61) (ty := 37) (x := (.tmp 11)) (gd := some (6, false)) (p := .pointer (some ⟨XA, 0, none⟩)) (.agg (cellsOf ds).toArray) (by rfl) (fun o ho => by simp only [Region.wanted, ho]; rfl) (by kernel_rfl) (by kernel_rfl) (by kernel_rfl) (fun _ _ _ h => h) (by rfl) HLA.out HS.out ?_
    simp only [Act.put, List.setIfInBounds_toArray, List.set_cons_zero, List.set_cons_succ]
    refine anyH_loadG 8 (d := 62) (ty := 37) (x := (.tmp 13)) (gd := some (6, false)) (p := .pointer (some ⟨XB, 0, none⟩)) (.agg (cellsOf ds).toArray) (by rfl) (fun o ho => by simp only [Region.wanted, ho]; rfl) (by kernel_rfl) (by kernel_rfl) (by kernel_rfl) (fun _ _ _ h => h) (by rfl) HLB.out HS.out ?_
    simp only [Act.put, List.setIfInBounds_toArray, List.set_cons_zero, List.set_cons_succ]
    refine anyH_neqB 9 (d := 63) (t := 37) (t' := 37) (x := (.tmp 61)) (y := (.tmp 62)) (gd := some (6, false)) ((cellsOf ds).toArray) ((cellsOf ds).toArray) true (by rfl) (fun o ho => by simp only [Region.wanted, ho]; rfl) (by kernel_rfl) (by kernel_rfl) (by kernel_rfl) (fun _ _ _ h => h) (by rfl) (by rfl) HGT.out (fun W => HEQ.out W) HS.out ?_
    simp only [Act.put, List.setIfInBounds_toArray, List.set_cons_zero, List.set_cons_succ]
    refine anyH_pureG 10 (d := 64) (op := .pick (.tmp 60) (.const (.bool true)) (.tmp 63)) (gd := none) (.bool false) (by rfl) (fun o ho => wanted_plain ho _) (by kernel_rfl) (by kernel_rfl) (by kernel_rfl) (fun _ _ _ h => h) (fun o ho W hW => by unfold execOp; simp only [ho]; go_simp) HS.out ?_
    simp only [Act.put, List.setIfInBounds_toArray, List.set_cons_zero, List.set_cons_succ]
    refine anyH_pureG 11 (d := 65) (op := .move (.tmp 64)) (gd := none) (.bool false) (by rfl) (fun o ho => wanted_plain ho _) (by kernel_rfl) (by kernel_rfl) (by kernel_rfl) (fun _ _ _ h => h) (fun o ho W hW => by unfold execOp; simp only [ho]; go_simp) HS.out ?_
    simp only [Act.put, List.setIfInBounds_toArray, List.set_cons_zero, List.set_cons_succ]
    refine anyH_loadG 12 (d := 66) (ty := 37) (x := (.tmp 11)) (gd := some (11, false)) (p := .pointer (some ⟨XA, 0, none⟩)) (.agg (cellsOf ds).toArray) (by rfl) (fun o ho => by simp only [Region.wanted, ho]; rfl) (by kernel_rfl) (by kernel_rfl) (by kernel_rfl) (fun _ _ _ h => h) (by rfl) HLA.out HS.out ?_
    simp only [Act.put, List.setIfInBounds_toArray, List.set_cons_zero, List.set_cons_succ]
    refine anyH_pureG 13 (d := 67) (op := .move (.tmp 0)) (gd := some (11, false)) (.slice a0 len0 cap0) (by rfl) (fun o ho => by simp only [Region.wanted, ho]; rfl) (by kernel_rfl) (by kernel_rfl) (by kernel_rfl) (fun _ _ _ h => h) (fun o ho W hW => by unfold execOp; simp only [ho]; go_simp) HS.out ?_
    simp only [Act.put, List.setIfInBounds_toArray, List.set_cons_zero, List.set_cons_succ]
    refine anyH_callG 14 (d := some 68) (f := 10) (xs := #[(.tmp 67)]) (ts := #[33]) (gd := some (11, false)) (vs := #[.slice a0 len0 cap0]) (by kernel_rfl) (by rfl) (fun o ho => by simp only [Region.wanted, ho]; rfl) (by go_simp) (by go_simp) (HSM.out) ?_
    rintro e9 w9 ⟨rfl, hb9⟩
    have HS9 := Lib.hid (HS.out.below hb9)
    have HB9 := Lib.hid hb9
    clear hb9
    refine ⟨_, rfl, HS9.out, fun hS => ?_⟩
    clear hS
    simp only [Act.put, List.setIfInBounds_toArray, List.set_cons_zero, List.set_cons_succ]
    refine anyH_neqB 15 (d := 69) (t := 37) (t' := 37) (x := (.tmp 66)) (y := (.tmp 68)) (gd := some (11, false)) ((cellsOf ds).toArray) ((cellsOf ds).toArray) true (by rfl) (fun o ho => by simp only [Region.wanted, ho]; rfl) (by kernel_rfl) (by kernel_rfl) (by kernel_rfl) (fun _ _ _ h => h) (by rfl) (by rfl) HGT.out (fun W => HEQ.out W) HS9.out ?_
    simp only [Act.put, List.setIfInBounds_toArray, List.set_cons_zero, List.set_cons_succ]
    refine anyH_pureG 16 (d := 70) (op := .pick (.tmp 65) (.const (.bool true)) (.tmp 69)) (gd := none) (.bool false) (by rfl) (fun o ho => wanted_plain ho _) (by kernel_rfl) (by kernel_rfl) (by kernel_rfl) (fun _ _ _ h => h) (fun o ho W hW => by unfold execOp; simp only [ho]; go_simp) HS9.out ?_
    simp only [Act.put, List.setIfInBounds_toArray, List.set_cons_zero, List.set_cons_succ]
    refine anyH_pureG 17 (d := 71) (op := .move (.tmp 70)) (gd := none) (.bool false) (by rfl) (fun o ho => wanted_plain ho _) (by kernel_rfl) (by kernel_rfl) (by kernel_rfl) (fun _ _ _ h => h) (fun o ho W hW => by unfold execOp; simp only [ho]; go_simp) HS9.out ?_
    simp only [Act.put, List.setIfInBounds_toArray, List.set_cons_zero, List.set_cons_succ]
    refine anyH_pureG 18 (d := 72) (op := .move (.tmp 7)) (gd := some (17, false)) (.pointer (some ⟨d, 0, none⟩)) (by rfl) (fun o ho => by simp only [Region.wanted, ho]; rfl) (by kernel_rfl) (by kernel_rfl) (by kernel_rfl) (fun _ _ _ h => h) (fun o ho W hW => by unfold execOp; simp only [ho]; go_simp) HS9.out ?_
    simp only [Act.put, List.setIfInBounds_toArray, List.set_cons_zero, List.set_cons_succ]
    refine anyH_pureG 20 (d := 74) (op := .move (.tmp 0)) (gd := some (17, false)) (.slice a0 len0 cap0) (by rfl) (fun o ho => by simp only [Region.wanted, ho]; rfl) (by kernel_rfl) (by kernel_rfl) (by kernel_rfl) (fun _ _ _ h => h) (fun o ho W hW => by unfold execOp; simp only [ho]; go_simp) HS9.out ?_
    simp only [Act.put, List.setIfInBounds_toArray, List.set_cons_zero, List.set_cons_succ]
    refine anyH_pureG 21 (d := 75) (op := .call { callee := .builtin .len, args := #[(.tmp 74)], argTypes := #[33] }) (gd := some (17, false)) (.int .i64 (len0 : Int)) (by rfl) (fun o ho => by simp only [Region.wanted, ho]; rfl) (by kernel_rfl) (by kernel_rfl) (by kernel_rfl) (fun _ _ _ h => h) (fun o ho W hW => by unfold execOp; simp only [ho]; go_simp) HS9.out ?_
    simp only [Act.put, List.setIfInBounds_toArray, List.set_cons_zero, List.set_cons_succ]
    refine anyH_callG 19 (d := some 73) (f := 20) (xs := #[(.tmp 72)]) (ts := #[24]) (gd := some (17, false)) (vs := #[.pointer (some ⟨d, 0, none⟩)]) (by kernel_rfl) (by rfl) (fun o ho => by simp only [Region.wanted, ho]; rfl) (by go_simp) (by go_simp) (HUS.out w9 HB9.out) ?_
    rintro e10 w10 ⟨rfl, hw10⟩
    have HW10 := Lib.hid hw10
    have HS10 := Lib.hid (show Rw9 XA XB ds w10 from by rw [hw10]; exact HS9.out)
    clear hw10
    refine ⟨_, rfl, HS10.out, fun hS => ?_⟩
    clear hS
    simp only [Act.put, List.setIfInBounds_toArray, List.set_cons_zero, List.set_cons_succ]
    refine anyH_pureG 22 (d := 76) (op := .binOp .neq 3 (.tmp 73) (.tmp 75) 3) (gd := some (17, false)) (.bool false) (by rfl) (fun o ho => by simp only [Region.wanted, ho]; rfl) (by kernel_rfl) (by kernel_rfl) (by kernel_rfl) (fun _ _ _ h => h) (fun o1 ho W hW => by unfold execOp; simp only [ho]; go_simp; try simp) HS10.out ?_
    simp only [Act.put, List.setIfInBounds_toArray, List.set_cons_zero, List.set_cons_succ]
    refine anyH_pureG 23 (d := 77) (op := .pick (.tmp 71) (.const (.bool true)) (.tmp 76)) (gd := none) (.bool false) (by rfl) (fun o ho => wanted_plain ho _) (by kernel_rfl) (by kernel_rfl) (by kernel_rfl) (fun _ _ _ h => h) (fun o ho W hW => by unfold execOp; simp only [ho]; go_simp) HS10.out ?_
    simp only [Act.put, List.setIfInBounds_toArray, List.set_cons_zero, List.set_cons_succ]
    refine wpAnyH_done (by kernel_rfl) ?_ _
    have hb10 : Below w8b.heap.size w8b w10 := by rw [HW10.out]; exact (below_drewN' _ w8b 1).trans HB9.out
    have HB10 := Lib.hid (HBW.out.trans (hb10.mono HBW.out.size))
    have HBS10 := Lib.hid (HBS.out.below hb10)
    have HA10 := Lib.hid (HS10.out.ra)
    clear hb10 HS HS9 HS10 HLA HLB HSM HUS HB9 HW10 HROW HBW HBS
    obtain ⟨m1, m2, k, hkn, m3⟩ := wraps1 a1 len0 (by omega)
    obtain ⟨nn, hnn⟩ : ∃ nn : Nat, max a2 0 = (nn : Int) := ⟨(max a2 0).toNat, by omega⟩
    obtain ⟨j, hj⟩ : ∃ j : Nat, j = min nn (len0 - k) := ⟨_, rfl⟩
    obtain ⟨M, hM⟩ : ∃ M : Nat, M = k + j := ⟨_, rfl⟩
    have hmin : min (nn : Int) ((len0 : Int) - (k : Int)) = (j : Int) := by omega
    have hsum : (k : Int) + (j : Int) = (M : Int) := by omega
    have HE := Lib.hid (show k ≤ M ∧ M ≤ cap0 ∧ M - k = j from ⟨by omega, by omega, by omega⟩)
    have HRL := Lib.hid (show (z0.drop k).take nn = (z0.drop k).take j from by
      have h1 := HZL.out
      by_cases h2 : nn ≤ len0 - k
      · have h3 : j = nn := by omega
        rw [h3]
      · rw [List.take_of_length_le (by rw [List.length_drop]; omega), List.take_of_length_le (by rw [List.length_drop]; omega)])
    have HRP := Lib.hid (fun W (hW : Below w.heap.size w W) => ((HR.out.below hW).cut cap0 k hkn hlc).take j (by omega))
    have HBX := Lib.hid (fun (W : World) (hW : Below w10.heap.size w10 W) => bread_c (HBS10.out.below hW) ds HD32.out (k : Int) (nn : Int))
    have HNW10 := Lib.hid (show w10.heap.size ≤ w10.heap.size from Nat.le_refl _)
    clear hj hM
    go_wp2_with (first | (refine wpList_load_row (by rfl) 37 _ (by rfl) XA (by rfl) _ (cellsOf ds).toArray (0, 0) _ HA10.out Tryd.underlying37 (by rfl) HI32D.out ?_))
    refine (HBX.out w10 (Below.refl _ _)).mono ?_
    rintro e11 w11 ⟨va, vn, vc, er, rfl, hb11, hrv⟩
    have hlk : lookF (fresh 2097152 [(fileB ds, z0)]).now (fileB ds) = some z0 := by
      show lookF [(fileB ds, z0)] (fileB ds) = some z0
      rw [look_one, if_pos rfl]
    rcases hrv with ⟨h1, _⟩ | ⟨_, h1, _⟩ | ⟨z, _, h1, h2⟩
    · cases h1
    · rw [show ((((fresh 2097152 [(fileB ds, z0)]).fused 0).1.fused (-1)).1).now = (fresh 2097152 [(fileB ds, z0)]).now from rfl, hlk] at h1
      cases h1
    · rw [show ((((fresh 2097152 [(fileB ds, z0)]).fused 0).1.fused (-1)).1).now = (fresh 2097152 [(fileB ds, z0)]).now from rfl, hlk] at h1
      obtain rfl : z0 = z := Option.some.inj h1
      rcases h2 with ⟨h2, _⟩ | ⟨_, _, rfl, hown, hvn, hz⟩
      · omega
      · simp only [Int.toNat_natCast] at hown hvn hz
        obtain ⟨a', c', hv, -, hvc, hrd⟩ := hown.rd hz
        obtain ⟨e1, e2, e3⟩ := Value.slice.inj hv
        subst e1
        have HB11 := Lib.hid (HB10.out.trans (hb11.mono HB10.out.size))
        have HSM := Lib.hid (show Calls Tryd.prog 22 #[.slice va vn vc, .slice (sla a0 cap0 k) j (cap0 - k)] w11 (RetD (.bool true) w11) from by
          rw [e2]
          have h5 := HRP.out w11 HB11.out
          rw [← HRL.out] at h5
          have := same_c va (sla a0 cap0 k) _ vc j (cap0 - k) _ _ w11 hrd h5 (by rw [List.length_take, List.length_drop]; have := HZL.out; omega)
          simpa using this)
        have HMM := Lib.hid (show wrap64 (M : Int) = (M : Int) from wrap64_id (by have := HE.out; omega) (by have := HE.out; omega))
        clear hb11 hown hvn hz hv hvc hrd e2 e3 HBX HBS10 HRP HRL hlk h1 HA10 HNW10 HB10
        go_wp2_with (refine wpList_runG (by rfl) (.slice (sla a0 cap0 k) j (cap0 - k)) (exec_midB (x := .tmp 100) (y := .tmp 101) (z := .tmp 109) HE.out.1 HE.out.2.1 HE.out.2.2 rfl (by rfl) (by rfl) (by rfl) _ rfl _) ?_)
        refine HSM.out.mono ?_
        rintro e12 w12 ⟨rfl, q, rfl⟩
        have HEE := Lib.hid (HB11.out.trans (below_drewN' _ w11 q))
        clear HSM HE HMM HB11
        go_wp2_with fail
        go_ret
        exact ⟨rfl, HEE.out⟩
end Go.Proofs.YtcjlbonflecbkaaDoor
