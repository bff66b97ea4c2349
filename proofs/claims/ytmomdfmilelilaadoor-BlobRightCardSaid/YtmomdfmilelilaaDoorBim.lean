/-
  awake of the store's statements answers yes.
-/
import Derived.Test.YtmomdfmilelilaaDoorBil
import Derived.Test.YtmomdfmilelilaaDoorBfg
import Derived.Lib.SlBytesConst
namespace Go.Proofs.YtmomdfmilelilaaDoor
open Go.RowKit
set_option linter.unusedVariables false
section
variable {P : Program} {ops : Array Oper} {Q : Exit → Act → World → Prop}
theorem op_atG (i : Nat) {d : Option Tmp} {op : Op} {gd : Option (Nat × Bool)} {a : Act} {w : World} {K : Act → World → Prop} (hi : (ops[i]?.map fun o => (o.dst, o.op, o.guard)) = some (d, op, gd)) (hw : ∀ o : Oper, o.guard = gd → Region.wanted o (yielded ops a.tmps) = true)
    (h : ∀ o : Oper, o.dst = d → o.op = op → o.wp P a w K Q) : wpOp P ops Q i K a w := by
  cases ho : ops[i]? with
  | none => simp [ho] at hi
  | some o =>
    simp only [ho, Option.map_some, Option.some.injEq, Prod.mk.injEq] at hi
    obtain ⟨g1, g2, g3⟩ := hi
    unfold wpOp
    simp only [ho, hw o g3, if_true]
    exact .inl (h o g1 g2)
theorem wp_conv {o : Oper} {a : Act} {w w' : World} {K : Act → World → Prop} {sT dT : TypeId} {x : Operand} (ho : o.op = .convert sT dT x) (p v : Value) (hx : a.eval x = p) (hrun : (convert sT dT p).run P w = .ok v w') (h : K (a.put o.dst v) w') : o.wp P a w K Q := by
  unfold Oper.wp execOp
  simp only [ho, hx, Sem.run_bind, hrun, Result.andThen_ok, Sem.run_pure]
  exact h
end
theorem gen_wpl {P : Program} {ops : Array Oper} {Q : Exit → Act → World → Prop} {l : List Oper} {a : Act} {W : World} {F : World → Prop} (h : F W) (k : ∀ w, F w → wpList P ops Q l a w) : wpList P ops Q l a W := k W h
theorem wp_bs3 {w : World} {op : Oper} {a : Act} {K : Act → World → Prop} {Q : Exit → Act → World → Prop} (ho : op.op = .buildSlice 33 3 #[(0, (.const (.int .u8 97))), (1, (.const (.int .u8 98))), (2, (.const (.int .u8 99)))])
    (k : K (a.put op.dst (.slice (some ⟨w.heap.size, 0, none⟩) 3 3)) (w.alloc (.cells #[.int .u8 97, .int .u8 98, .int .u8 99] 5))) : op.wp Tryd.prog a w K Q := by
  unfold Oper.wp execOp
  simp only [ho]
  go_simp
  exact k
theorem conv_abc (w : World) : (convert 33 33 (.slice (some ⟨w.heap.size, 0, none⟩) 3 3)).run Tryd.prog (w.alloc (.cells #[.int .u8 97, .int .u8 98, .int .u8 99] 5)) = .ok (.slice (some ⟨w.heap.size, 0, none⟩) 3 3) (w.alloc (.cells #[.int .u8 97, .int .u8 98, .int .u8 99] 5 (3, 4))) :=
  Lib.run_convert_bytes_const (P := Tryd.prog) w 33 5 #[.int .u8 97, .int .u8 98, .int .u8 99] 3 3 Tryd.underlying33 Tryd.underlying5
theorem rd_abc {W : World} {g : Nat} (h : W.heap[g]? = some (.cells #[.int .u8 97, .int .u8 98, .int .u8 99] 5 (3, 4))) : Rd W (some ⟨g, 0, none⟩) 3 [97, 98, 99] := ⟨rfl, by decide, .inr ⟨g, 0, rfl, (Array.getElem?_eq_some_iff.1 h).1, fun i hi => by
  rw [Nat.zero_add, cell_of_row W g i _ _ _ h]
  match i, hi with
  | 0, _ => rfl
  | 1, _ => rfl
  | 2, _ => rfl⟩⟩
theorem bnew_ok {X : Nat → Prop} {B d N : Nat} {A : Ad} {w : World} (h : Dx X B d N A w) (hN : N < 100000000) (hXB : B ≤ w.heap.size) (hd : A.down = false) (hs : lookF A.now spr = none) :
    Calls Tryd.prog 5 #[.pointer (some ⟨d, 0, none⟩)] w fun e w' => e = .returned (.tuple #[.pointer (some ⟨w.heap.size, 0, none⟩), .int .i64 0]) ∧ Bs (fun j => X j ∨ j = w.heap.size) B d w.heap.size (N + 6) A w' ∧ Below B w w' ∧ KpD X w w' := by
  have h1 := bnew_c h hN hXB
  rw [nw_none hd hs] at h1
  refine h1.mono ?_
  rintro e w' ⟨k1, k2, k3, k4, k5⟩
  refine ⟨?_, ⟨k2, .inr rfl, k3⟩, k4, k5⟩
  rcases k1 with ⟨_, k1⟩ | ⟨⟨_, k1⟩, _⟩
  · exact k1
  · exact absurd rfl k1
structure Rw5 (sb X5 : Nat) (ds : List Nat) (W : World) : Prop where
  row : Brow W X5 37 ds
theorem Rw5.below {sb X5 : Nat} {ds : List Nat} {W W' : World} (h : Rw5 sb X5 ds W) (hb : Below W.heap.size W W') : Rw5 sb X5 ds W' := ⟨h.row.below hb h.row.lt⟩
theorem sz_one (room : Int) (s : ByteArray) (z : List Nat) : szA (fresh room [(s, z)]) s = ((z.length : Int), 0) := by
  unfold szA fresh
  simp only [Bool.false_eq_true, if_false]
  rw [look_one, if_pos rfl]
theorem ck_one (room : Int) (s : ByteArray) (z : List Nat) : ckA (fresh room [(s, z)]) s (Sha.sum z) = 0 := by
  unfold ckA fresh
  simp only [Bool.false_eq_true, if_false]
  rw [look_one, if_pos rfl]
  simp
set_option maxRecDepth 100000 in
set_option maxHeartbeats 8000000 in
theorem awake12_c (w : World) (ht : Tab w) : Calls Tryd.prog 6 #[] w fun e w' => e = .returned (.bool true) ∧ Below w.heap.size w w' := by
  obtain ⟨ds, hds⟩ : ∃ ds, Sha.sum [97, 98, 99] = ds := ⟨_, rfl⟩
  have hD : D32 ds := by rw [← hds]; exact ⟨sum_len _, sum_byte _⟩
  have HDS := Lib.hid hds
  have HD32 := Lib.hid hD
  have HT := Lib.hid ht
  have HD := Lib.hid (dnew_c 100 w (by omega) (by omega))
  have HI32D := Lib.hid (show (Tryd.prog.info? 37).map (·.size) = some (cellsOf ds).toArray.size from by rw [cellsOf_size, hD.1]; exact info_dig)
  have HSZD := Lib.hid (show (cellsOf zs32).toArray.size = (cellsOf ds).toArray.size from by rw [cellsOf_size, cellsOf_size, zs32_len, hD.1])
  have HGT := Lib.hid (show Tryd.prog.eqGuardType Tryd.prog.depth 37 = false from by kernel_rfl)
  have HEQ := Lib.hid (fun W => show (Op.equalIn 10000 37 (.agg (cellsOf ds).toArray) (.agg (cellsOf ds).toArray)).run Tryd.prog W = .ok true W from by
    have := eq_dig 37 32 Tryd.underlying37 W ds ds hD.1 hD.1 hD.2 hD.2
    simpa using this)
  clear hds hD ht
  go_enter Tryd.func6, Tryd.ntmps6
  go_wp2_with fail
  refine HD.out.mono ?_
  rintro e1 w1 ⟨rfl, hk1, hb1⟩
  obtain ⟨d, hd⟩ : ∃ d, d = w.heap.size := ⟨_, rfl⟩
  have hdx1 : Dx (fun _ => False) w.heap.size d 0 (fresh 100 []) w1 := ⟨⟨newS 100, by rw [hd]; exact hk1, anewS 100 (by omega) (by omega), fun j hj => hj.elim⟩, fun j hj => hj.elim⟩
  rw [← hd]
  have HNW := Lib.hid (bnew_ok hdx1 (by omega) hb1.size rfl rfl)
  have HB1 := Lib.hid hb1
  clear hk1 hb1 hdx1 HD hd
  go_wp2_with fail
  refine HNW.out.mono ?_
  rintro e2 w2 ⟨rfl, hbs2, hb2, -⟩
  obtain ⟨sb, hsb⟩ : ∃ sb, sb = w1.heap.size := ⟨_, rfl⟩
  rw [← hsb] at hbs2 ⊢
  have kc := conv_abc w2
  obtain ⟨w3, hw3⟩ : ∃ w3, w3 = w2.alloc (.cells #[.int .u8 97, .int .u8 98, .int .u8 99] 5 (3, 4)) := ⟨_, rfl⟩
  obtain ⟨g, hg⟩ : ∃ g, g = w2.heap.size := ⟨_, rfl⟩
  have hb3 : Below w2.heap.size w2 w3 := by rw [hw3]; exact (Below.refl _ _).alloc (Nat.le_refl _) _
  have hc3 : w3.heap[g]? = some (.cells #[.int .u8 97, .int .u8 98, .int .u8 99] 5 (3, 4)) := by rw [hw3, hg]; exact heap_alloc_new w2 _
  have hb13 := HB1.out.trans (hb2.trans (hb3.mono (Nat.le_trans HB1.out.size hb2.size)))
  have hbs3 : Bs (fun j => j = sb ∨ j = g) w.heap.size d sb 6 (fresh 100 []) w3 := ⟨hbs2.dx.belowY hb3 (fun j hj => hj.elim (fun e => .inl (.inr e)) fun e => .inr (by omega)) (fun j hj => by
    rcases hj with rfl | rfl
    · exact Nat.lt_of_lt_of_le (hbs2.dx.lt _ (.inr rfl)) hb3.size
    · exact (Array.getElem?_eq_some_iff.1 hc3).1), .inl rfl, (hb3.cell (p := ⟨sb, 0, none⟩) (hbs2.dx.lt _ (.inr rfl))).trans hbs2.st⟩
  have hpt := bput_c hbs3 (Tab.below HT.out hb13 HT.out.pos) (by omega) (some ⟨g, 0, none⟩) 3 3 [97, 98, 99] (rd_abc hc3) (by omega) (by omega) (fun b o s e _ => by cases e; exact .inr (.inr rfl)) (fun e => by cases e) HT.out.pos (by omega)
  rw [put_fresh (by decide) (by decide), HDS.out] at hpt
  have HPT := Lib.hid hpt
  have HB13 := Lib.hid hb13
  clear hbs2 hb2 hb3 hc3 hb13 hbs3 hpt HNW HB1 hsb
  go_wp2_with fail
  rw [← hg, ← hw3]
  clear hg hw3 kc
  refine HPT.out.mono ?_
  rintro e4 w4 ⟨dz, hz, rfl, hbs4, hb4, -⟩
  obtain rfl : ds = dz := by
    rcases hz with ⟨_, h⟩ | ⟨h, _⟩
    · exact h.symm
    · exact absurd rfl h
  have HN4 := Lib.hid (show ∀ O : Obj, (w4.alloc O).heap[w4.heap.size]? = some O from fun O => heap_new w4 O)
  have HBS4 := Lib.hid hbs4
  have HB4 := Lib.hid (HB13.out.trans hb4)
  clear hbs4 hb4 HPT HB13 hz
  obtain ⟨X5, hX5⟩ : ∃ X5, X5 = w4.heap.size := ⟨_, rfl⟩
  have HX5 := Lib.hid hX5
  clear hX5
  have HSZ4 := Lib.hid (fun W (hW : Below w4.heap.size w4 W) => bsize_c (HBS4.out.below hW) ds HD32.out)
  have HSZ5 := Lib.hid (show szA (fresh 100 [(fileB ds, [97, 98, 99])]) (fileB ds) = ((3 : Int), (0 : Int)) from sz_one 100 (fileB ds) [97, 98, 99])
  have HCK5 := Lib.hid (show (ckA (fresh 100 [(fileB ds, [97, 98, 99])]) (fileB ds) ds == 0) = true from by
    have h1 := ck_one 100 (fileB ds) [97, 98, 99]
    rw [HDS.out] at h1
    rw [h1]
    rfl)
  go_wp2_with (first | (refine wpList_store_row (by rfl) 37 _ _ (by rfl) w4.heap.size (cellsOf ds).toArray (by rfl) (by rfl) 37 (cellsOf zs32).toArray (by exact HN4.out _) HI32D.out HSZD.out (cellsOf_all _) ?_; refine gen_wpl (F := fun W => Brow W w4.heap.size 37 ds ∧ Below w4.heap.size w4 W) ⟨setRow_heap _ _ _ _ _ _ (HN4.out _), ((Below.refl w4.heap.size w4).alloc (Nat.le_refl _) _).setRow (Nat.le_refl _) _⟩ ?_; rintro wq ⟨hx5, hb5⟩; have HX5R := Lib.hid hx5; have HB45 := Lib.hid hb5; clear hx5 hb5) | (refine wpList_load_row (by rfl) 37 _ (by rfl) w4.heap.size (by rfl) _ (cellsOf ds).toArray (0, 0) _ HX5R.out Tryd.underlying37 (by rfl) HI32D.out ?_))
  refine (HSZ4.out _ HB45.out).mono ?_
  rintro e5 w5 ⟨rfl, hb55⟩
  rw [HSZ5.out]
  rw [← HX5.out] at HX5R ⊢
  have hb45 := HB45.out.trans (hb55.mono HB45.out.size)
  have HS5 := Lib.hid (show Rw5 sb X5 ds w5 from ⟨HX5R.out.below hb55 HX5R.out.lt⟩)
  have HB5 := Lib.hid (HB4.out.trans (hb45.mono HB4.out.size))
  have HWH := Lib.hid (fun (w8 : World) {w7 : World} (h7 : Below (World.drew w5).heap.size (World.drew w5) w7) (h8 : Below w7.heap.size w7 w8) => show Calls Tryd.prog 16 #[.pointer (some ⟨sb, 0, none⟩), .agg (cellsOf ds).toArray] w8 fun e w' => e = .returned (.bool true) ∧ Below w8.heap.size w8 w' from by
    have hb58 : Below w5.heap.size w5 w8 := (below_drewN' _ w5 1).trans (h7.trans (h8.mono h7.size))
    have h1 := bwhole_c (HBS4.out.below (hb45.trans (hb58.mono hb45.size))) ds HD32.out (Tab.below HT.out (HB5.out.trans (hb58.mono HB5.out.size)) HT.out.pos)
    rw [HCK5.out] at h1
    exact h1)
  clear hb55 hb45 HB45 HX5R HSZ4 HSZ5 HX5 HN4 HBS4
  go_wp2_with fail
  have HS := Lib.hid (show Rw5 sb X5 ds (World.drew w5) from HS5.out.below (below_drewN' _ w5 1))
  have HLD := Lib.hid (show ∀ W, Rw5 sb X5 ds W → (Instr.loadAt 37 (.pointer (some ⟨X5, 0, none⟩))).run Tryd.prog W = .ok (.agg (cellsOf ds).toArray) W from fun W hW => run_loadAt_mid W X5 0 37 (cellsOf ds) _ hW.row.range Tryd.underlying37 rfl (by rw [cellsOf_length, HD32.out.1]; exact info_dig))
  refine anyH_begin (S := Rw5 sb X5 ds) (by kernel_rfl) ?_
  refine anyH_pureG 0 (d := 37) (op := .move (.tmp 6)) (gd := none) (.int .i64 0) (by rfl) (fun o ho => wanted_plain ho _) (by kernel_rfl) (by kernel_rfl) (by kernel_rfl) (fun _ _ _ h => h) (fun o ho W hW => by unfold execOp; simp only [ho]; go_simp) HS.out ?_
  simp only [Act.put, List.setIfInBounds_toArray, List.set_cons_zero, List.set_cons_succ]
  refine anyH_pureG 1 (d := 38) (op := .binOp .eql 25 (.tmp 37) (.const (.int .i64 0)) 25) (gd := none) (.bool true) (by rfl) (fun o ho => wanted_plain ho _) (by kernel_rfl) (by kernel_rfl) (by kernel_rfl) (fun _ _ _ h => h) (fun o1 ho W hW => by unfold execOp; simp only [ho]; go_simp; try simp) HS.out ?_
  simp only [Act.put, List.setIfInBounds_toArray, List.set_cons_zero, List.set_cons_succ]
  refine anyH_pureG 2 (d := 39) (op := .move (.tmp 38)) (gd := none) (.bool true) (by rfl) (fun o ho => wanted_plain ho _) (by kernel_rfl) (by kernel_rfl) (by kernel_rfl) (fun _ _ _ h => h) (fun o ho W hW => by unfold execOp; simp only [ho]; go_simp) HS.out ?_
  simp only [Act.put, List.setIfInBounds_toArray, List.set_cons_zero, List.set_cons_succ]
  refine anyH_loadG 3 (d := 40) (ty := 37) (x := (.tmp 5)) (gd := some (2, true)) (p := .pointer (some ⟨X5, 0, none⟩)) (.agg (cellsOf ds).toArray) (by rfl) (fun o ho => by simp only [Region.wanted, ho]; rfl) (by kernel_rfl) (by kernel_rfl) (by kernel_rfl) (fun _ _ _ h => h) (by rfl) HLD.out HS.out ?_
  simp only [Act.put, List.setIfInBounds_toArray, List.set_cons_zero, List.set_cons_succ]
  refine wpAnyH_all (rs := [4]) (by kernel_rfl) (by simp) ?_
  intro k hk; simp only [List.mem_cons, List.not_mem_nil, or_false] at hk; subst hk
  refine op_atG 4 (d := some 41) (op := .buildSlice 33 3 #[(0, (.const (.int .u8 97))), (1, (.const (.int .u8 98))), (2, (.const (.int .u8 99)))]) (gd := some (2, true)) (by rfl) (fun o ho => by simp only [Region.wanted, ho]; rfl) ?_
  intro o4 hod4 hoo4
  refine wp_bs3 hoo4 ?_
  rw [hod4]
  clear hod4 hoo4
  obtain ⟨w6, hw6⟩ : ∃ w6, w6 = (World.drew w5).alloc (.cells #[.int .u8 97, .int .u8 98, .int .u8 99] 5) := ⟨_, rfl⟩
  obtain ⟨gl, hgl⟩ : ∃ gl, gl = (World.drew w5).heap.size := ⟨_, rfl⟩
  rw [← hw6, ← hgl]
  have hb6 : Below (World.drew w5).heap.size (World.drew w5) w6 := by rw [hw6]; exact (Below.refl _ _).alloc (Nat.le_refl _) _
  have HS6 := Lib.hid (show Rw5 sb X5 ds w6 from HS.out.below hb6)
  simp only [Act.put, List.setIfInBounds_toArray, List.set_cons_zero, List.set_cons_succ]
  refine ⟨HS6.out, ?_⟩
  refine wpAnyH_all (rs := [5]) (by kernel_rfl) (by simp) ?_
  intro k hk; simp only [List.mem_cons, List.not_mem_nil, or_false] at hk; subst hk
  refine op_atG 5 (d := some 42) (op := .convert 33 33 (.tmp 41)) (gd := some (2, true)) (by rfl) (fun o ho => by simp only [Region.wanted, ho]; rfl) ?_
  intro o5 hod5 hoo5
  obtain ⟨w7, hw7⟩ : ∃ w7, w7 = (World.drew w5).alloc (.cells #[.int .u8 97, .int .u8 98, .int .u8 99] 5 (3, 4)) := ⟨_, rfl⟩
  refine wp_conv hoo5 (.slice (some ⟨gl, 0, none⟩) 3 3) (.slice (some ⟨gl, 0, none⟩) 3 3) (by rfl) (w' := w7) (by rw [hw6, hw7, hgl]; exact conv_abc (World.drew w5)) ?_
  rw [hod5]
  clear hod5 hoo5
  have hb7 : Below (World.drew w5).heap.size (World.drew w5) w7 := by rw [hw7]; exact (Below.refl _ _).alloc (Nat.le_refl _) _
  have hc7 : w7.heap[gl]? = some (.cells #[.int .u8 97, .int .u8 98, .int .u8 99] 5 (3, 4)) := by rw [hw7, hgl]; exact heap_alloc_new _ _
  have HS7 := Lib.hid (show Rw5 sb X5 ds w7 from HS.out.below hb7)
  have HB7 := Lib.hid hb7
  have HSM := Lib.hid (show Calls Tryd.prog 7 #[.slice (some ⟨gl, 0, none⟩) 3 3] w7 (DigRet ds w7) from by
    have := dsum_c (some ⟨gl, 0, none⟩) 3 3 [97, 98, 99] w7 (rd_abc hc7) (by omega) (by omega) (by omega) (Tab.below HT.out (HB5.out.trans ((below_drewN' _ w5 1).trans (hb7.mono HB5.out.size))) HT.out.pos)
    rwa [HDS.out] at this)
  simp only [Act.put, List.setIfInBounds_toArray, List.set_cons_zero, List.set_cons_succ]
  refine ⟨HS7.out, ?_⟩
  clear HS HS6 hw6 hw7 hb6 hb7 hc7 hgl
  refine anyH_callG 6 (d := some 43) (f := 7) (xs := #[(.tmp 42)]) (ts := #[33]) (gd := some (2, true)) (vs := #[.slice (some ⟨gl, 0, none⟩) 3 3]) (by kernel_rfl) (by rfl) (fun o ho => by simp only [Region.wanted, ho]; rfl) (by go_simp) (by go_simp) (HSM.out) ?_
  rintro e8 w8 ⟨rfl, hb8⟩
  have HS8 := Lib.hid (HS7.out.below hb8)
  have HB8 := Lib.hid hb8
  clear hb8
  refine ⟨_, rfl, HS8.out, fun hS => ?_⟩
  clear hS
  simp only [Act.put, List.setIfInBounds_toArray, List.set_cons_zero, List.set_cons_succ]
  refine anyH_eqG 7 (d := 44) (t := 37) (t' := 37) (x := (.tmp 40)) (y := (.tmp 43)) (gd := some (2, true)) ((cellsOf ds).toArray) ((cellsOf ds).toArray) true (by rfl) (fun o ho => by simp only [Region.wanted, ho]; rfl) (by kernel_rfl) (by kernel_rfl) (by kernel_rfl) (fun _ _ _ h => h) (by rfl) (by rfl) HGT.out (fun W => HEQ.out W) HS8.out ?_
  simp only [Act.put, List.setIfInBounds_toArray, List.set_cons_zero, List.set_cons_succ]
  refine anyH_pureG 8 (d := 45) (op := .pick (.tmp 39) (.tmp 44) (.const (.bool false))) (gd := none) (.bool true) (by rfl) (fun o ho => wanted_plain ho _) (by kernel_rfl) (by kernel_rfl) (by kernel_rfl) (fun _ _ _ h => h) (fun o ho W hW => by unfold execOp; simp only [ho]; go_simp) HS8.out ?_
  simp only [Act.put, List.setIfInBounds_toArray, List.set_cons_zero, List.set_cons_succ]
  refine anyH_pureG 9 (d := 46) (op := .move (.tmp 45)) (gd := none) (.bool true) (by rfl) (fun o ho => wanted_plain ho _) (by kernel_rfl) (by kernel_rfl) (by kernel_rfl) (fun _ _ _ h => h) (fun o ho W hW => by unfold execOp; simp only [ho]; go_simp) HS8.out ?_
  simp only [Act.put, List.setIfInBounds_toArray, List.set_cons_zero, List.set_cons_succ]
  refine anyH_pureG 10 (d := 47) (op := .move (.tmp 8)) (gd := some (9, true)) (.int .i64 0) (by rfl) (fun o ho => by simp only [Region.wanted, ho]; rfl) (by kernel_rfl) (by kernel_rfl) (by kernel_rfl) (fun _ _ _ h => h) (fun o ho W hW => by unfold execOp; simp only [ho]; go_simp) HS8.out ?_
  simp only [Act.put, List.setIfInBounds_toArray, List.set_cons_zero, List.set_cons_succ]
  refine anyH_pureG 11 (d := 48) (op := .binOp .eql 25 (.tmp 47) (.const (.int .i64 0)) 25) (gd := some (9, true)) (.bool true) (by rfl) (fun o ho => by simp only [Region.wanted, ho]; rfl) (by kernel_rfl) (by kernel_rfl) (by kernel_rfl) (fun _ _ _ h => h) (fun o1 ho W hW => by unfold execOp; simp only [ho]; go_simp; try simp) HS8.out ?_
  simp only [Act.put, List.setIfInBounds_toArray, List.set_cons_zero, List.set_cons_succ]
  refine anyH_pureG 12 (d := 49) (op := .pick (.tmp 46) (.tmp 48) (.const (.bool false))) (gd := none) (.bool true) (by rfl) (fun o ho => wanted_plain ho _) (by kernel_rfl) (by kernel_rfl) (by kernel_rfl) (fun _ _ _ h => h) (fun o ho W hW => by unfold execOp; simp only [ho]; go_simp) HS8.out ?_
  simp only [Act.put, List.setIfInBounds_toArray, List.set_cons_zero, List.set_cons_succ]
  refine anyH_pureG 13 (d := 50) (op := .move (.tmp 49)) (gd := none) (.bool true) (by rfl) (fun o ho => wanted_plain ho _) (by kernel_rfl) (by kernel_rfl) (by kernel_rfl) (fun _ _ _ h => h) (fun o ho W hW => by unfold execOp; simp only [ho]; go_simp) HS8.out ?_
  simp only [Act.put, List.setIfInBounds_toArray, List.set_cons_zero, List.set_cons_succ]
  refine anyH_pureG 14 (d := 51) (op := .move (.tmp 7)) (gd := some (13, true)) (.int .i64 3) (by rfl) (fun o ho => by simp only [Region.wanted, ho]; rfl) (by kernel_rfl) (by kernel_rfl) (by kernel_rfl) (fun _ _ _ h => h) (fun o ho W hW => by unfold execOp; simp only [ho]; go_simp) HS8.out ?_
  simp only [Act.put, List.setIfInBounds_toArray, List.set_cons_zero, List.set_cons_succ]
  refine anyH_pureG 15 (d := 52) (op := .binOp .eql 3 (.tmp 51) (.const (.int .i64 3)) 3) (gd := some (13, true)) (.bool true) (by rfl) (fun o ho => by simp only [Region.wanted, ho]; rfl) (by kernel_rfl) (by kernel_rfl) (by kernel_rfl) (fun _ _ _ h => h) (fun o1 ho W hW => by unfold execOp; simp only [ho]; go_simp; try simp) HS8.out ?_
  simp only [Act.put, List.setIfInBounds_toArray, List.set_cons_zero, List.set_cons_succ]
  refine anyH_pureG 16 (d := 53) (op := .pick (.tmp 50) (.tmp 52) (.const (.bool false))) (gd := none) (.bool true) (by rfl) (fun o ho => wanted_plain ho _) (by kernel_rfl) (by kernel_rfl) (by kernel_rfl) (fun _ _ _ h => h) (fun o ho W hW => by unfold execOp; simp only [ho]; go_simp) HS8.out ?_
  simp only [Act.put, List.setIfInBounds_toArray, List.set_cons_zero, List.set_cons_succ]
  refine anyH_pureG 17 (d := 54) (op := .move (.tmp 53)) (gd := none) (.bool true) (by rfl) (fun o ho => wanted_plain ho _) (by kernel_rfl) (by kernel_rfl) (by kernel_rfl) (fun _ _ _ h => h) (fun o ho W hW => by unfold execOp; simp only [ho]; go_simp) HS8.out ?_
  simp only [Act.put, List.setIfInBounds_toArray, List.set_cons_zero, List.set_cons_succ]
  refine anyH_pureG 18 (d := 55) (op := .move (.tmp 3)) (gd := some (17, true)) (.pointer (some ⟨sb, 0, none⟩)) (by rfl) (fun o ho => by simp only [Region.wanted, ho]; rfl) (by kernel_rfl) (by kernel_rfl) (by kernel_rfl) (fun _ _ _ h => h) (fun o ho W hW => by unfold execOp; simp only [ho]; go_simp) HS8.out ?_
  simp only [Act.put, List.setIfInBounds_toArray, List.set_cons_zero, List.set_cons_succ]
  refine anyH_loadG 19 (d := 56) (ty := 37) (x := (.tmp 5)) (gd := some (17, true)) (p := .pointer (some ⟨X5, 0, none⟩)) (.agg (cellsOf ds).toArray) (by rfl) (fun o ho => by simp only [Region.wanted, ho]; rfl) (by kernel_rfl) (by kernel_rfl) (by kernel_rfl) (fun _ _ _ h => h) (by rfl) HLD.out HS8.out ?_
  simp only [Act.put, List.setIfInBounds_toArray, List.set_cons_zero, List.set_cons_succ]
  refine anyH_callG 20 (d := some 57) (f := 16) (xs := #[(.tmp 55), (.tmp 56)]) (ts := #[28, 37]) (gd := some (17, true)) (vs := #[.pointer (some ⟨sb, 0, none⟩), .agg (cellsOf ds).toArray]) (by kernel_rfl) (by rfl) (fun o ho => by simp only [Region.wanted, ho]; rfl) (by go_simp) (by go_simp) (HWH.out w8 HB7.out HB8.out) ?_
  rintro e9 w9 ⟨rfl, hb9⟩
  have HS9 := Lib.hid (HS8.out.below hb9)
  have HB9 := Lib.hid hb9
  clear hb9
  refine ⟨_, rfl, HS9.out, fun hS => ?_⟩
  clear hS
  simp only [Act.put, List.setIfInBounds_toArray, List.set_cons_zero, List.set_cons_succ]
  refine anyH_pureG 21 (d := 58) (op := .pick (.tmp 54) (.tmp 57) (.const (.bool false))) (gd := none) (.bool true) (by rfl) (fun o ho => wanted_plain ho _) (by kernel_rfl) (by kernel_rfl) (by kernel_rfl) (fun _ _ _ h => h) (fun o ho W hW => by unfold execOp; simp only [ho]; go_simp) HS9.out ?_
  simp only [Act.put, List.setIfInBounds_toArray, List.set_cons_zero, List.set_cons_succ]
  refine anyH_pureG 22 (d := 0) (op := .assign (.tmp 58)) (gd := none) (.bool true) (by rfl) (fun o ho => wanted_plain ho _) (by kernel_rfl) (by kernel_rfl) (by kernel_rfl) (fun _ _ _ h => h) (fun o ho W hW => by unfold execOp; simp only [ho]; go_simp) HS9.out ?_
  simp only [Act.put, List.setIfInBounds_toArray, List.set_cons_zero, List.set_cons_succ]
  refine wpAnyH_done (by kernel_rfl) ?_ _
  have HE := Lib.hid (show Below w.heap.size w w9 from (HB5.out.trans (below_drewN' _ w5 1)).trans ((HB7.out.trans ((HB8.out.trans (HB9.out.mono HB8.out.size)).mono HB7.out.size)).mono HB5.out.size))
  clear HS7 HS8 HS9 HLD HSM HWH HEQ HGT HB4 HB5 HB7 HB8 HB9 HS5
  go_wp2_with fail
  go_ret
  exact ⟨rfl, HE.out⟩
end Go.Proofs.YtmomdfmilelilaaDoor
