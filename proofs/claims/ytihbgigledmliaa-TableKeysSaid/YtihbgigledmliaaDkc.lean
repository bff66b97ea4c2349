/-
  A disk in memory: put and drop.
-/
import Derived.Test.YtihbgigledmliaaDkab
import Derived.Test.YtihbgigledmliaaDcg
import Derived.Test.YtihbgigledmliaaJst
namespace Go.Proofs.Ytihbgigledmliaa
open Go.RowKit Go.Maps
set_option linter.unusedVariables false
theorem run_cell_map (W : World) (a : Addr) (v : Option Nat) (hc : W.cell? a = some (.map v)) : (Instr.loadAt 50 (.pointer (some a))).run Try.prog W = .ok (.map v) W := by go_simp
theorem run_cell_s (W : World) (a : Addr) (v : ByteArray) (hc : W.cell? a = some (.string v)) : (Instr.loadAt 9 (.pointer (some a))).run Try.prog W = .ok (.string v) W := by go_simp
theorem run_cell_i (W : World) (a : Addr) (v : Int) (hc : W.cell? a = some (.int .i64 v)) : (Instr.loadAt 3 (.pointer (some a))).run Try.prog W = .ok (.int .i64 v) W := by go_simp
theorem run_cell_b (W : World) (a : Addr) (v : Option Addr) (l c : Nat) (hc : W.cell? a = some (.slice v l c)) : (Instr.loadAt 41 (.pointer (some a))).run Try.prog W = .ok (.slice v l c) W := by go_simp
theorem DK.cellSet {B d : Nat} {S : Dsk} {w : World} (h : DK B d S w) (i : Nat) (v : Value) (S' : Dsk) (he : (dskCells S).setIfInBounds i v = dskCells S') (hi : i < 6) (e : S' = { S with room := S'.room, used := S'.used, fuse := S'.fuse, down := S'.down }) (e3 : S'.mb = S.mb ∧ S'.fl = S.fl ∧ S'.lv = S.lv) : DK B d S' (w.setCells d i [v]) ∧ Mov S d S' w (w.setCells d i [v]) ∧ w.there d i 1 := by
  obtain ⟨e1, e2, e3⟩ := e3
  have hh := row_set h.hd v (o := i) hi
  rw [he] at hh
  have ho : ∀ k, k ≠ d → (w.setCells d i [v]).heap[k]? = w.heap[k]? := fun k hk => Below.heap_setCell w ⟨d, i, none⟩ v k hk
  exact ⟨h.struct hh (fun k hk _ => ho k hk) e, ⟨rfl, rfl, rfl, by show w.heap.size ≤ (w.setCell ⟨d, i, none⟩ v).heap.size; simp [World.setCell], fun k hk hn => ho k fun e => hn (.inl e), fun k hk => .inl (by unfold Dsk.own Dsk.ownR at hk ⊢; rw [e1, e2, e3] at hk; exact hk)⟩, row_there h.hd hi⟩
/-- one block of the disk's is written: the map's -/
theorem DK.mapSet {B d m n : Nat} {S : Dsk} {D : DU} {w w' : World} (h : DK B d S w) (hmb : S.mb = some m) (hmp : w'.ownsMap Try.prog 9 fileR m n D) (hg : w.grownBy w' (some m))
    (hr : ∀ s : ByteArray, Maps.has D (keyS s) = false ∨ ∃ (b : Nat) (f : Fil), D.atKey (keyS s) .nil = .lit (.int .u64 (b : Int)) ∧ S.fl b = some f ∧ f.nm = s) :
    DK B d { S with D := D, n := n } w' ∧ Mov S d { S with D := D, n := n } w w' := by
  have hB : B ≤ m := (h.rest.kind (.inl hmb)).1
  have hkm : ∃ es cl, w.heap[m]? = some (.map es cl) := by
    rcases h.rest.hm with ⟨h0, _⟩ | ⟨b, h2, h3, h4⟩
    · rw [h0] at hmb; cases hmb
    · rw [hmb] at h2
      cases h2
      exact map_block h4
  obtain ⟨es, cl, hes⟩ := hkm
  have keep : ∀ k, k < w.heap.size → k ≠ m → w'.heap[k]? = w.heap[k]? := fun k hk hne => hg.block k hk fun e => hne (by simpa using e)
  have nm : ∀ k C t fr, w.heap[k]? = some (.cells C t fr) → k ≠ m := fun k C t fr hh e => by subst e; rw [hes] at hh; cases hh
  refine ⟨⟨h.base, (keep d h.lt (h.ne (.inl hmb)).symm).trans h.hd, ⟨.inr ⟨m, hmb, hB, hmp⟩, fun b f hb => ?_, h.rest.ha, hr, ?_, h.rest.hc⟩⟩, hg.os, hg.tape, hg.output, hg.size, fun k hk hn => keep k hk fun e => hn (.inr (.inl (by rw [e]; exact hmb))), fun k hk => .inl hk⟩
  · obtain ⟨h1, h2, h3, h4⟩ := h.rest.hf b f hb
    refine ⟨h1, (keep b (Array.getElem?_eq_some_iff.1 h2).1 (nm _ _ _ _ h2)).trans h2, row_keep h3 fun k hk => ?_, h4⟩
    obtain ⟨_, cur, hh⟩ := row_block h3 hk
    exact keep k (Array.getElem?_eq_some_iff.1 hh).1 (nm _ _ _ _ hh)
  · refine row_keep h.rest.hl fun k hk => ?_
    obtain ⟨_, cur, hh⟩ := row_block h.rest.hl hk
    exact keep k (Array.getElem?_eq_some_iff.1 hh).1 (nm _ _ _ _ hh)
theorem DK.mapPut {B d m b : Nat} {S : Dsk} {f : Fil} {w : World} (h : DK B d S w) (hmb : S.mb = some m) (hn : S.n < maxLen) (hf : S.fl b = some f) (hs : f.nm.size ≤ maxLen) :
    ∃ w', (Instr.mapUpdate 50 (.map (some m)) (.string f.nm) (.pointer (some ⟨b, 0, none⟩))).run Try.prog w = .ok () w' ∧ DK B d { S with D := S.D.put (keyS f.nm) (.lit (.int .u64 (b : Int))), n := S.n + 1 } w' ∧ Mov S d { S with D := S.D.put (keyS f.nm) (.lit (.int .u64 (b : Int))), n := S.n + 1 } w w' := by
  rcases h.rest.hm with ⟨h0, _⟩ | ⟨b', h2, h3, h4⟩
  · rw [h0] at hmb; cases hmb
  · rw [hmb] at h2
    cases h2
    obtain ⟨w', h5, h6, h7⟩ := h4.store mapLaw Try.underlying50 hn (keyOk hs) (fileR_ptr b)
    obtain ⟨h8, h9⟩ := h.mapSet hmb h6 h7.grown fun s => by
      by_cases e : s = f.nm
      · rw [e, atKey_put_same h4.isMap (by trivial)]
        exact .inr ⟨b, f, rfl, hf, rfl⟩
      · rcases h.rest.hr s with k0 | ⟨b', f', k1, k2, k3⟩
        · exact .inl ((has_put_other (fun x => e (keyS_inj x)) _).trans k0)
        · exact .inr ⟨b', f', (atKey_put_other (fun x => e (keyS_inj x)) _ _).trans k1, k2, k3⟩
    exact ⟨w', h5, h8, h9⟩
theorem DK.mapDel {B d : Nat} {S : Dsk} {w : World} (h : DK B d S w) (s : ByteArray) (hs : s.size ≤ maxLen) (ty : TypeId) :
    ∃ w', (Builtin.delete_ #[50, 9] ty #[.map S.mb, .string s]).run Try.prog w = .ok (.tuple #[]) w' ∧ DK B d { S with D := S.D.del (keyS s) } w' ∧ Mov S d { S with D := S.D.del (keyS s) } w w' := by
  rcases h.rest.hm with ⟨h0, h1⟩ | ⟨m, h2, h3, h4⟩
  · refine ⟨w, by rw [h0]; exact Maps.drop_nil mapLaw Try.underlying50 (keyOk hs) ty, ?_, ?_⟩
    · have e : S.D.del (keyS s) = S.D := by rw [h1]; rfl
      rw [e]
      exact h
    · have e : S.D.del (keyS s) = S.D := by rw [h1]; rfl
      rw [e]
      exact Mov.refl _ _ _
  · obtain ⟨w', h5, h6, h7⟩ := h4.drop mapLaw Try.underlying50 (keyOk hs) ty
    obtain ⟨h8, h9⟩ := h.mapSet h2 h6 h7.grown fun x => by
      by_cases e : x = s
      · rw [e]
        exact .inl has_del_same
      · rcases h.rest.hr x with k0 | ⟨b', f', k1, k2, k3⟩
        · exact .inl ((has_del_other (fun y => e (keyS_inj y))).trans k0)
        · exact .inr ⟨b', f', (atKey_del_other (fun y => e (keyS_inj y)) _).trans k1, k2, k3⟩
    exact ⟨w', by rw [h2]; exact h5, h8, h9⟩
theorem wp_mapUpdateD {P : Program} {op : Oper} {a : Act} {w w' : World} {K : Act → World → Prop} {Q : Exit → Act → World → Prop} (t : TypeId) (m x v : Operand) (ho : op.op = .mapUpdate t m x v) (mv kv vv : Value) (hm : a.eval m = mv) (hx : a.eval x = kv) (hv : a.eval v = vv) (hrun : (Instr.mapUpdate t mv kv vv).run P w = .ok () w') (h : K (a.put op.dst undef) w') : op.wp P a w K Q := by
  unfold Oper.wp
  simp [execOp, ho, hm, hx, hv, hrun, Result.andThen]
  exact h
theorem wp_deleteD {P : Program} {op : Oper} {a : Act} {w w' : World} {K : Act → World → Prop} {Q : Exit → Act → World → Prop} (t k : TypeId) (m x : Operand) (ho : op.op = .call { callee := .builtin .delete, args := #[m, x], argTypes := #[t, k] }) (mv kv : Value) (hm : a.eval m = mv) (hx : a.eval x = kv) (hrun : (Builtin.delete_ #[t, k] op.type #[mv, kv]).run P w = .ok (.tuple #[]) w') (h : K (a.put op.dst (.tuple #[])) w') : op.wp P a w K Q := by
  unfold Oper.wp
  simp [execOp, ho, resolve, invoke, builtin, hm, hx, hrun, Result.andThen]
  exact h
/-- the struct gets a new map -/
theorem DK.newMap {B d : Nat} {S : Dsk} {w : World} (h : DK B d S w) (hmb : S.mb = none) : DK B d { S with mb := some w.heap.size } ((w.alloc (.map #[] 0)).setCells d 1 [.map (some w.heap.size)]) ∧ Mov S d { S with mb := some w.heap.size } w ((w.alloc (.map #[] 0)).setCells d 1 [.map (some w.heap.size)]) := by
  have hD : S.D = .map [] := by
    rcases h.rest.hm with ⟨_, h1⟩ | ⟨m, h2, _⟩
    · exact h1
    · rw [hmb] at h2; cases h2
  have ha := h.alloc (.map #[] 0)
  have hlt := h.lt
  have ho : ∀ k, k ≠ d → ((w.alloc (.map #[] 0)).setCells d 1 [.map (some w.heap.size)]).heap[k]? = (w.alloc (.map #[] 0)).heap[k]? := fun k hk => Below.heap_setCell _ ⟨d, 1, none⟩ _ k hk
  have hh := row_set ha.hd (.map (some w.heap.size)) (o := 1) (by show 1 < 6; omega)
  have hr := ha.rest.keep (w' := (w.alloc (.map #[] 0)).setCells d 1 [.map (some w.heap.size)]) fun k hk => ho k (ha.ne hk)
  refine ⟨⟨h.base, hh, ⟨.inr ⟨_, rfl, Nat.le_trans h.base (Nat.le_of_lt hlt), ?_⟩, hr.hf, hr.ha, hr.hr, hr.hl, hr.hc⟩⟩, rfl, rfl, rfl, ?_, fun k hk hn => ?_, fun k hk => ?_⟩
  · refine map_keep ?_ (ho _ (by omega))
    show (w.alloc (.map #[] 0)).ownsMap Try.prog 9 fileR w.heap.size S.n S.D
    rw [hD]
    exact (World.ownsMap_made w Try.prog 9 fileR).mono (Nat.zero_le _)
  · show w.heap.size ≤ ((w.alloc (.map #[] 0)).setCell ⟨d, 1, none⟩ _).heap.size
    simp [World.setCell]
  · rw [ho k fun e => hn (.inl e)]
    exact Below.heap_alloc _ _ _ hk
  · rcases hk with hk | hk | hk
    · exact .inl (.inl hk)
    · right
      have : w.heap.size = k := by simpa using hk
      omega
    · exact .inl (.inr (.inr hk))
theorem mapnil (w : World) : (binOp .eql 50 (.map none) (.map none)).run Try.prog w = .ok (.bool true) w := by kernel_rfl
theorem mapsome (m : Nat) (w : World) : (binOp .eql 50 (.map (some m)) (.map none)).run Try.prog w = .ok (.bool false) w := by kernel_rfl
theorem gen_code2 {P : Program} {c : Code} {Q : Exit → Act → World → Prop} {a : Act} {W : World} {F : World → Prop} (h : F W) (k : ∀ w, F w → c.wp P Q a w) : c.wp P Q a W := k W h
/-- what drop leaves -/
def Dsk.drop (S : Dsk) (f : Fil) : Dsk := { S with D := S.D.del (keyS f.nm), used := wrap64 (S.used - (f.zs.length : Int)) }
/-- what put leaves -/
def Dsk.put (S : Dsk) (m b : Nat) (f : Fil) : Dsk := { S with mb := some m, D := S.D.put (keyS f.nm) (.lit (.int .u64 (b : Int))), n := S.n + 1, used := wrap64 (S.used + (f.zs.length : Int)) }
set_option maxRecDepth 100000 in
set_option maxHeartbeats 4000000 in
theorem ddrop_c {B d b : Nat} {S : Dsk} {f : Fil} {w : World} (h : DK B d S w) (hf : S.fl b = some f) (hs : f.nm.size ≤ maxLen) : Calls Try.prog 94 #[.pointer (some ⟨d, 0, none⟩), .pointer (some ⟨b, 0, none⟩)] w fun e w' => e = .returned (.tuple #[]) ∧ DK B d (S.drop f) w' ∧ Mov S d (S.drop f) w w' := by
  obtain ⟨ra, rc, hrow, -, -, -⟩ := ((h.rest.hf b f hf).2.2.1).rd (h.rest.hf b f hf).2.2.2
  have HROW := Lib.hid hrow
  have HF := Lib.hid hf
  have HK := Lib.hid h
  have HMV := Lib.hid (Mov.refl S d w)
  clear h hrow hf
  go_enter Try.func94, Try.ntmps94
  go_wp2_with fail
  (try dsimp only [Act.put, List.setIfInBounds_toArray, List.set_cons_zero, List.set_cons_succ])
  have HK := Lib.hid (HK.out.below (Below.refl _ _).drew)
  have HMV := Lib.hid (HMV.out.trans (Mov.ofBelow (S := S) (d := d) (Below.refl _ _).drew))
  have HS := Lib.hid (show World.cell? _ ⟨d, 1, none⟩ = some (.map (S).mb) ∧ World.cell? _ ⟨b, 0, none⟩ = some (.string f.nm) from ⟨HK.out.cells.2.1, (HK.out.rest.fcells HF.out).1⟩)
  have HL2 := Lib.hid (fun W (hW : World.cell? W ⟨d, 1, none⟩ = some (.map (S).mb) ∧ World.cell? W ⟨b, 0, none⟩ = some (.string f.nm)) => run_cell_map W ⟨d, 1, none⟩ _ hW.1)
  have HL1 := Lib.hid (fun W (hW : World.cell? W ⟨d, 1, none⟩ = some (.map (S).mb) ∧ World.cell? W ⟨b, 0, none⟩ = some (.string f.nm)) => run_cell_s W ⟨b, 0, none⟩ _ hW.2)
  refine anyH_begin (S := fun W => World.cell? W ⟨d, 1, none⟩ = some (.map (S).mb) ∧ World.cell? W ⟨b, 0, none⟩ = some (.string f.nm)) (by kernel_rfl) ?_
  refine anyH_pureG 0 (d := 4) (op := .move (.tmp 0)) (gd := none) (.pointer (some ⟨d, 0, none⟩)) (by rfl) (fun o ho => wanted_plain ho _) (by kernel_rfl) (by kernel_rfl) (by kernel_rfl) (fun _ _ _ h => h) (fun o ho W hW => by unfold execOp; simp only [ho]; go_simp) HS.out ?_
  simp only [Act.put, List.setIfInBounds_toArray, List.set_cons_zero, List.set_cons_succ]
  refine anyH_pureG 1 (d := 5) (op := .nilCheck (.tmp 4)) (gd := none) (.pointer (some ⟨d, 0, none⟩)) (by rfl) (fun o ho => wanted_plain ho _) (by kernel_rfl) (by kernel_rfl) (by kernel_rfl) (fun _ _ _ h => h) (fun o ho W hW => by unfold execOp; simp only [ho]; go_simp) HS.out ?_
  simp only [Act.put, List.setIfInBounds_toArray, List.set_cons_zero, List.set_cons_succ]
  refine anyH_pureG 2 (d := 6) (op := .fieldAddr 53 (.tmp 5) 1) (gd := none) (.pointer (some ⟨d, 1, none⟩)) (by rfl) (fun o ho => wanted_plain ho _) (by kernel_rfl) (by kernel_rfl) (by kernel_rfl) (fun _ _ _ h => h) (fun o ho W hW => by unfold execOp; simp only [ho]; go_simp) HS.out ?_
  simp only [Act.put, List.setIfInBounds_toArray, List.set_cons_zero, List.set_cons_succ]
  refine anyH_loadG 3 (d := 7) (ty := 50) (x := (.tmp 6)) (gd := none) (p := .pointer (some ⟨d, 1, none⟩)) (.map (S).mb) (by rfl) (fun o ho => wanted_plain ho _) (by kernel_rfl) (by kernel_rfl) (by kernel_rfl) (fun _ _ _ h => h) (by rfl) HL2.out HS.out ?_
  simp only [Act.put, List.setIfInBounds_toArray, List.set_cons_zero, List.set_cons_succ]
  refine anyH_pureG 4 (d := 8) (op := .move (.tmp 1)) (gd := none) (.pointer (some ⟨b, 0, none⟩)) (by rfl) (fun o ho => wanted_plain ho _) (by kernel_rfl) (by kernel_rfl) (by kernel_rfl) (fun _ _ _ h => h) (fun o ho W hW => by unfold execOp; simp only [ho]; go_simp) HS.out ?_
  simp only [Act.put, List.setIfInBounds_toArray, List.set_cons_zero, List.set_cons_succ]
  refine anyH_pureG 5 (d := 9) (op := .nilCheck (.tmp 8)) (gd := none) (.pointer (some ⟨b, 0, none⟩)) (by rfl) (fun o ho => wanted_plain ho _) (by kernel_rfl) (by kernel_rfl) (by kernel_rfl) (fun _ _ _ h => h) (fun o ho W hW => by unfold execOp; simp only [ho]; go_simp) HS.out ?_
  simp only [Act.put, List.setIfInBounds_toArray, List.set_cons_zero, List.set_cons_succ]
  refine anyH_pureG 6 (d := 10) (op := .fieldAddr 122 (.tmp 9) 0) (gd := none) (.pointer (some ⟨b, 0, none⟩)) (by rfl) (fun o ho => wanted_plain ho _) (by kernel_rfl) (by kernel_rfl) (by kernel_rfl) (fun _ _ _ h => h) (fun o ho W hW => by unfold execOp; simp only [ho]; go_simp) HS.out ?_
  simp only [Act.put, List.setIfInBounds_toArray, List.set_cons_zero, List.set_cons_succ]
  refine anyH_loadG 7 (d := 11) (ty := 9) (x := (.tmp 10)) (gd := none) (p := .pointer (some ⟨b, 0, none⟩)) (.string f.nm) (by rfl) (fun o ho => wanted_plain ho _) (by kernel_rfl) (by kernel_rfl) (by kernel_rfl) (fun _ _ _ h => h) (by rfl) HL1.out HS.out ?_
  simp only [Act.put, List.setIfInBounds_toArray, List.set_cons_zero, List.set_cons_succ]
  refine wpAnyH_all (rs := [8]) (by kernel_rfl) (by simp) ?_
  intro k hk; simp only [List.mem_cons, List.not_mem_nil, or_false] at hk; subst hk
  refine op_atJ 8 (d := none) (op := .call { callee := .builtin .delete, args := #[(.tmp 7), (.tmp 11)], argTypes := #[50, 9] }) (by rfl) ?_
  intro o0 hod hoo
  obtain ⟨w7, hrun, HK9, HMV9⟩ := HK.out.mapDel f.nm hs o0.type
  refine wp_deleteD 50 9 (.tmp 7) (.tmp 11) hoo (.map (S).mb) (.string f.nm) (by rfl) (by rfl) hrun ?_
  have HK := Lib.hid HK9
  have HMV := Lib.hid (HMV.out.trans HMV9)
  rw [hod]
  clear HK9 HMV9 HL1 HL2 hrun
  simp only [Act.put, List.setIfInBounds_toArray, List.set_cons_zero, List.set_cons_succ]
  refine ⟨⟨HK.out.cells.2.1, (HK.out.rest.fcells HF.out).1⟩, ?_⟩
  clear HS
  refine wpAnyH_done (by kernel_rfl) ?_ _
  go_wp2_with fail
  (try dsimp only [Act.put, List.setIfInBounds_toArray, List.set_cons_zero, List.set_cons_succ])
  have HK := Lib.hid (HK.out.below (Below.refl _ _).drew)
  have HMV := Lib.hid (HMV.out.trans (Mov.ofBelow (S := { S with D := S.D.del (keyS f.nm) }) (d := d) (Below.refl _ _).drew))
  have HS := Lib.hid ((HK.out.rest.fcells HF.out).2.trans (congrArg some HROW.out))
  have HL2 := Lib.hid (run_cell_i _ ⟨d, 2, none⟩ _ HK.out.cells.2.2.1)
  have HL1 := Lib.hid (fun W (hW : W.cell? ⟨b, 1, none⟩ = some (.slice ra f.zs.length rc)) => run_cell_b W ⟨b, 1, none⟩ ra f.zs.length rc hW)
  refine anyH_begin (S := fun W => W.cell? ⟨b, 1, none⟩ = some (.slice ra f.zs.length rc)) (by kernel_rfl) ?_
  refine anyH_pureG 0 (d := 12) (op := .move (.tmp 0)) (gd := none) (.pointer (some ⟨d, 0, none⟩)) (by rfl) (fun o ho => wanted_plain ho _) (by kernel_rfl) (by kernel_rfl) (by kernel_rfl) (fun _ _ _ h => h) (fun o ho W hW => by unfold execOp; simp only [ho]; go_simp) HS.out ?_
  simp only [Act.put, List.setIfInBounds_toArray, List.set_cons_zero, List.set_cons_succ]
  refine anyH_pureG 1 (d := 13) (op := .nilCheck (.tmp 12)) (gd := none) (.pointer (some ⟨d, 0, none⟩)) (by rfl) (fun o ho => wanted_plain ho _) (by kernel_rfl) (by kernel_rfl) (by kernel_rfl) (fun _ _ _ h => h) (fun o ho W hW => by unfold execOp; simp only [ho]; go_simp) HS.out ?_
  simp only [Act.put, List.setIfInBounds_toArray, List.set_cons_zero, List.set_cons_succ]
  refine anyH_pureG 2 (d := 14) (op := .fieldAddr 53 (.tmp 13) 2) (gd := none) (.pointer (some ⟨d, 2, none⟩)) (by rfl) (fun o ho => wanted_plain ho _) (by kernel_rfl) (by kernel_rfl) (by kernel_rfl) (fun _ _ _ h => h) (fun o ho W hW => by unfold execOp; simp only [ho]; go_simp) HS.out ?_
  simp only [Act.put, List.setIfInBounds_toArray, List.set_cons_zero, List.set_cons_succ]
  refine anyH_pureG 4 (d := 16) (op := .move (.tmp 1)) (gd := none) (.pointer (some ⟨b, 0, none⟩)) (by rfl) (fun o ho => wanted_plain ho _) (by kernel_rfl) (by kernel_rfl) (by kernel_rfl) (fun _ _ _ h => h) (fun o ho W hW => by unfold execOp; simp only [ho]; go_simp) HS.out ?_
  simp only [Act.put, List.setIfInBounds_toArray, List.set_cons_zero, List.set_cons_succ]
  refine anyH_pureG 5 (d := 17) (op := .nilCheck (.tmp 16)) (gd := none) (.pointer (some ⟨b, 0, none⟩)) (by rfl) (fun o ho => wanted_plain ho _) (by kernel_rfl) (by kernel_rfl) (by kernel_rfl) (fun _ _ _ h => h) (fun o ho W hW => by unfold execOp; simp only [ho]; go_simp) HS.out ?_
  simp only [Act.put, List.setIfInBounds_toArray, List.set_cons_zero, List.set_cons_succ]
  refine anyH_pureG 6 (d := 18) (op := .fieldAddr 122 (.tmp 17) 1) (gd := none) (.pointer (some ⟨b, 1, none⟩)) (by rfl) (fun o ho => wanted_plain ho _) (by kernel_rfl) (by kernel_rfl) (by kernel_rfl) (fun _ _ _ h => h) (fun o ho W hW => by unfold execOp; simp only [ho]; go_simp) HS.out ?_
  simp only [Act.put, List.setIfInBounds_toArray, List.set_cons_zero, List.set_cons_succ]
  refine anyH_loadG 7 (d := 19) (ty := 41) (x := (.tmp 18)) (gd := none) (p := .pointer (some ⟨b, 1, none⟩)) (.slice ra f.zs.length rc) (by rfl) (fun o ho => wanted_plain ho _) (by kernel_rfl) (by kernel_rfl) (by kernel_rfl) (fun _ _ _ h => h) (by rfl) HL1.out HS.out ?_
  simp only [Act.put, List.setIfInBounds_toArray, List.set_cons_zero, List.set_cons_succ]
  refine anyH_pureG 8 (d := 20) (op := .call { callee := .builtin .len, args := #[(.tmp 19)], argTypes := #[41] }) (gd := none) (.int .i64 (f.zs.length : Int)) (by rfl) (fun o ho => wanted_plain ho _) (by kernel_rfl) (by kernel_rfl) (by kernel_rfl) (fun _ _ _ h => h) (fun o ho W hW => by unfold execOp; simp only [ho]; go_simp) HS.out ?_
  simp only [Act.put, List.setIfInBounds_toArray, List.set_cons_zero, List.set_cons_succ]
  refine wpAnyH_all (rs := [3]) (by kernel_rfl) (by simp) ?_
  intro k hk; simp only [List.mem_cons, List.not_mem_nil, or_false] at hk; subst hk
  refine op_atJ 3 (d := some 15) (op := .load 3 (.tmp 14)) (by rfl) ?_
  intro o1 hod1 hoo1
  refine wp_load_g 3 (.tmp 14) hoo1 (.pointer (some ⟨d, 2, none⟩)) (.int .i64 ({ S with D := S.D.del (keyS f.nm) }).used) (by rfl) HL2.out ?_
  rw [hod1]
  simp only [Act.put, List.setIfInBounds_toArray, List.set_cons_zero, List.set_cons_succ]
  refine ⟨HS.out, ?_⟩
  refine anyH_pureG 9 (d := 21) (op := .binOp .sub 3 (.tmp 15) (.tmp 20) 3) (gd := none) (.int .i64 (wrap64 (({ S with D := S.D.del (keyS f.nm) }).used - (f.zs.length : Int)))) (by rfl) (fun o ho => wanted_plain ho _) (by kernel_rfl) (by kernel_rfl) (by kernel_rfl) (fun _ _ _ h => h) (fun o ho W hW => by unfold execOp; simp only [ho]; go_simp; rw [IntKind.wrap_i64]; unfold wrap64; rfl) HS.out ?_
  simp only [Act.put, List.setIfInBounds_toArray, List.set_cons_zero, List.set_cons_succ]
  refine anyH_pureG 10 (d := 22) (op := .nilCheck (.tmp 12)) (gd := none) (.pointer (some ⟨d, 0, none⟩)) (by rfl) (fun o ho => wanted_plain ho _) (by kernel_rfl) (by kernel_rfl) (by kernel_rfl) (fun _ _ _ h => h) (fun o ho W hW => by unfold execOp; simp only [ho]; go_simp) HS.out ?_
  simp only [Act.put, List.setIfInBounds_toArray, List.set_cons_zero, List.set_cons_succ]
  refine anyH_pureG 11 (d := 23) (op := .fieldAddr 53 (.tmp 22) 2) (gd := none) (.pointer (some ⟨d, 2, none⟩)) (by rfl) (fun o ho => wanted_plain ho _) (by kernel_rfl) (by kernel_rfl) (by kernel_rfl) (fun _ _ _ h => h) (fun o ho W hW => by unfold execOp; simp only [ho]; go_simp) HS.out ?_
  simp only [Act.put, List.setIfInBounds_toArray, List.set_cons_zero, List.set_cons_succ]
  obtain ⟨HK9, HMV9, hth⟩ := HK.out.cellSet 2 (.int .i64 (wrap64 (({ S with D := S.D.del (keyS f.nm) }).used - (f.zs.length : Int)))) { { S with D := S.D.del (keyS f.nm) } with used := wrap64 (({ S with D := S.D.del (keyS f.nm) }).used - (f.zs.length : Int)) } rfl (by omega) rfl ⟨rfl, rfl, rfl⟩
  refine wpAnyH_all (rs := [12]) (by kernel_rfl) (by simp) ?_
  intro k hk; simp only [List.mem_cons, List.not_mem_nil, or_false] at hk; subst hk
  refine op_atJ 12 (d := none) (op := .store 3 (.tmp 23) (.tmp 21)) (by rfl) ?_
  intro o0 hod hoo
  refine wp_store_one 3 (.tmp 23) (.tmp 21) hoo d 2 (.int .i64 (wrap64 (({ S with D := S.D.del (keyS f.nm) }).used - (f.zs.length : Int)))) (by rfl) (by rfl) hth (by kernel_rfl) (by rfl) (by rfl) ?_
  have HK := Lib.hid HK9
  have HMV := Lib.hid (HMV.out.trans HMV9)
  have HS := Lib.hid ((HK.out.rest.fcells HF.out).2.trans (congrArg some HROW.out))
  rw [hod]
  clear HK9 HMV9 hth HL1 HL2
  simp only [Act.put, List.setIfInBounds_toArray, List.set_cons_zero, List.set_cons_succ]
  refine ⟨HS.out, ?_⟩
  refine wpAnyH_done (by kernel_rfl) ?_ _
  clear HS
  go_wp2_with fail
  go_end0
  exact ⟨rfl, HK.out, HMV.out⟩
set_option maxRecDepth 100000 in
set_option maxHeartbeats 8000000 in
theorem dput_c {B d b : Nat} {S : Dsk} {f : Fil} {w : World} (h : DK B d S w) (hf : S.fl b = some f) (hs : f.nm.size ≤ maxLen) (hn : S.n < maxLen) : Calls Try.prog 72 #[.pointer (some ⟨d, 0, none⟩), .pointer (some ⟨b, 0, none⟩)] w fun e w' => e = .returned (.tuple #[]) ∧ ∃ m, DK B d (S.put m b f) w' ∧ Mov S d (S.put m b f) w w' := by
  obtain ⟨ra, rc, hrow, -, -, -⟩ := ((h.rest.hf b f hf).2.2.1).rd (h.rest.hf b f hf).2.2.2
  have HROW := Lib.hid hrow
  have HF := Lib.hid hf
  have c1 := h.cells.2.1
  have f1 : w.frozen? ⟨d, 1, none⟩ = false := frozen_of_row w d 1 _ _ h.hd
  have hdl := h.lt
  cases hmb : S.mb with
  | none =>
    obtain ⟨g1, g2⟩ := h.newMap hmb
    rw [hmb] at c1
    have HK9 := Lib.hid g1
    have HMV9 := Lib.hid g2
    clear h hrow hf g1 g2
    have hmm := @run_makeMap Try.prog
    have hq0 := mapnil
    go_enter Try.func72, Try.ntmps72
    go_wp2_with fail
    refine gen_code2 (F := fun W => DK B d { S with mb := some w.heap.size } W ∧ Mov S d { S with mb := some w.heap.size } w W) (by rw [← World.setCell_alloc_past _ _ _ _ hdl]; exact ⟨HK9.out, HMV9.out⟩) ?_
    rintro w6 ⟨g1, g2⟩
    obtain ⟨m, hm⟩ : ∃ m, m = w.heap.size := ⟨_, rfl⟩
    rw [← hm] at g1 g2
    have HK := Lib.hid g1
    have HMV := Lib.hid g2
    clear g1 g2 HK9 HMV9 hmm c1 f1 hm
    (try dsimp only [Act.put, List.setIfInBounds_toArray, List.set_cons_zero, List.set_cons_succ])
    have HK := Lib.hid (HK.out.below (Below.refl _ _).drew)
    have HMV := Lib.hid (HMV.out.trans (Mov.ofBelow (S := { S with mb := some m }) (d := d) (Below.refl _ _).drew))
    have HS := Lib.hid (show World.cell? _ ⟨d, 1, none⟩ = some (.map (some m)) ∧ World.cell? _ ⟨b, 0, none⟩ = some (.string f.nm) from ⟨HK.out.cells.2.1, (HK.out.rest.fcells HF.out).1⟩)
    have HL2 := Lib.hid (fun W (hW : World.cell? W ⟨d, 1, none⟩ = some (.map (some m)) ∧ World.cell? W ⟨b, 0, none⟩ = some (.string f.nm)) => run_cell_map W ⟨d, 1, none⟩ _ hW.1)
    have HL1 := Lib.hid (fun W (hW : World.cell? W ⟨d, 1, none⟩ = some (.map (some m)) ∧ World.cell? W ⟨b, 0, none⟩ = some (.string f.nm)) => run_cell_s W ⟨b, 0, none⟩ _ hW.2)
    refine anyH_begin (S := fun W => World.cell? W ⟨d, 1, none⟩ = some (.map (some m)) ∧ World.cell? W ⟨b, 0, none⟩ = some (.string f.nm)) (by kernel_rfl) ?_
    refine anyH_pureG 0 (d := 13) (op := .move (.tmp 0)) (gd := none) (.pointer (some ⟨d, 0, none⟩)) (by rfl) (fun o ho => wanted_plain ho _) (by kernel_rfl) (by kernel_rfl) (by kernel_rfl) (fun _ _ _ h => h) (fun o ho W hW => by unfold execOp; simp only [ho]; go_simp) HS.out ?_
    simp only [Act.put, List.setIfInBounds_toArray, List.set_cons_zero, List.set_cons_succ]
    refine anyH_pureG 1 (d := 14) (op := .nilCheck (.tmp 13)) (gd := none) (.pointer (some ⟨d, 0, none⟩)) (by rfl) (fun o ho => wanted_plain ho _) (by kernel_rfl) (by kernel_rfl) (by kernel_rfl) (fun _ _ _ h => h) (fun o ho W hW => by unfold execOp; simp only [ho]; go_simp) HS.out ?_
    simp only [Act.put, List.setIfInBounds_toArray, List.set_cons_zero, List.set_cons_succ]
    refine anyH_pureG 2 (d := 15) (op := .fieldAddr 53 (.tmp 14) 1) (gd := none) (.pointer (some ⟨d, 1, none⟩)) (by rfl) (fun o ho => wanted_plain ho _) (by kernel_rfl) (by kernel_rfl) (by kernel_rfl) (fun _ _ _ h => h) (fun o ho W hW => by unfold execOp; simp only [ho]; go_simp) HS.out ?_
    simp only [Act.put, List.setIfInBounds_toArray, List.set_cons_zero, List.set_cons_succ]
    refine anyH_loadG 3 (d := 16) (ty := 50) (x := (.tmp 15)) (gd := none) (p := .pointer (some ⟨d, 1, none⟩)) (.map (some m)) (by rfl) (fun o ho => wanted_plain ho _) (by kernel_rfl) (by kernel_rfl) (by kernel_rfl) (fun _ _ _ h => h) (by rfl) HL2.out HS.out ?_
    simp only [Act.put, List.setIfInBounds_toArray, List.set_cons_zero, List.set_cons_succ]
    refine anyH_pureG 4 (d := 17) (op := .move (.tmp 1)) (gd := none) (.pointer (some ⟨b, 0, none⟩)) (by rfl) (fun o ho => wanted_plain ho _) (by kernel_rfl) (by kernel_rfl) (by kernel_rfl) (fun _ _ _ h => h) (fun o ho W hW => by unfold execOp; simp only [ho]; go_simp) HS.out ?_
    simp only [Act.put, List.setIfInBounds_toArray, List.set_cons_zero, List.set_cons_succ]
    refine anyH_pureG 5 (d := 18) (op := .nilCheck (.tmp 17)) (gd := none) (.pointer (some ⟨b, 0, none⟩)) (by rfl) (fun o ho => wanted_plain ho _) (by kernel_rfl) (by kernel_rfl) (by kernel_rfl) (fun _ _ _ h => h) (fun o ho W hW => by unfold execOp; simp only [ho]; go_simp) HS.out ?_
    simp only [Act.put, List.setIfInBounds_toArray, List.set_cons_zero, List.set_cons_succ]
    refine anyH_pureG 6 (d := 19) (op := .fieldAddr 122 (.tmp 18) 0) (gd := none) (.pointer (some ⟨b, 0, none⟩)) (by rfl) (fun o ho => wanted_plain ho _) (by kernel_rfl) (by kernel_rfl) (by kernel_rfl) (fun _ _ _ h => h) (fun o ho W hW => by unfold execOp; simp only [ho]; go_simp) HS.out ?_
    simp only [Act.put, List.setIfInBounds_toArray, List.set_cons_zero, List.set_cons_succ]
    refine anyH_loadG 7 (d := 20) (ty := 9) (x := (.tmp 19)) (gd := none) (p := .pointer (some ⟨b, 0, none⟩)) (.string f.nm) (by rfl) (fun o ho => wanted_plain ho _) (by kernel_rfl) (by kernel_rfl) (by kernel_rfl) (fun _ _ _ h => h) (by rfl) HL1.out HS.out ?_
    simp only [Act.put, List.setIfInBounds_toArray, List.set_cons_zero, List.set_cons_succ]
    refine anyH_pureG 8 (d := 21) (op := .move (.tmp 1)) (gd := none) (.pointer (some ⟨b, 0, none⟩)) (by rfl) (fun o ho => wanted_plain ho _) (by kernel_rfl) (by kernel_rfl) (by kernel_rfl) (fun _ _ _ h => h) (fun o ho W hW => by unfold execOp; simp only [ho]; go_simp) HS.out ?_
    simp only [Act.put, List.setIfInBounds_toArray, List.set_cons_zero, List.set_cons_succ]
    obtain ⟨w7, hrun, HK9, HMV9⟩ := HK.out.mapPut rfl hn HF.out hs
    refine wpAnyH_all (rs := [9]) (by kernel_rfl) (by simp) ?_
    intro k hk; simp only [List.mem_cons, List.not_mem_nil, or_false] at hk; subst hk
    refine op_atJ 9 (d := none) (op := .mapUpdate 50 (.tmp 16) (.tmp 20) (.tmp 21)) (by rfl) ?_
    intro o0 hod hoo
    refine wp_mapUpdateD 50 (.tmp 16) (.tmp 20) (.tmp 21) hoo (.map (some m)) (.string f.nm) (.pointer (some ⟨b, 0, none⟩)) (by rfl) (by rfl) (by rfl) hrun ?_
    have HK := Lib.hid HK9
    have HMV := Lib.hid (HMV.out.trans HMV9)
    rw [hod]
    clear HK9 HMV9 HL1 HL2 hrun
    simp only [Act.put, List.setIfInBounds_toArray, List.set_cons_zero, List.set_cons_succ]
    refine ⟨⟨HK.out.cells.2.1, (HK.out.rest.fcells HF.out).1⟩, ?_⟩
    clear HS
    refine wpAnyH_done (by kernel_rfl) ?_ _
    go_wp2_with fail
    (try dsimp only [Act.put, List.setIfInBounds_toArray, List.set_cons_zero, List.set_cons_succ])
    have HK := Lib.hid (HK.out.below (Below.refl _ _).drew)
    have HMV := Lib.hid (HMV.out.trans (Mov.ofBelow (S := { { S with mb := some m } with D := S.D.put (keyS f.nm) (.lit (.int .u64 (b : Int))), n := S.n + 1 }) (d := d) (Below.refl _ _).drew))
    have HS := Lib.hid ((HK.out.rest.fcells HF.out).2.trans (congrArg some HROW.out))
    have HL2 := Lib.hid (run_cell_i _ ⟨d, 2, none⟩ _ HK.out.cells.2.2.1)
    have HL1 := Lib.hid (fun W (hW : W.cell? ⟨b, 1, none⟩ = some (.slice ra f.zs.length rc)) => run_cell_b W ⟨b, 1, none⟩ ra f.zs.length rc hW)
    refine anyH_begin (S := fun W => W.cell? ⟨b, 1, none⟩ = some (.slice ra f.zs.length rc)) (by kernel_rfl) ?_
    refine anyH_pureG 0 (d := 22) (op := .move (.tmp 0)) (gd := none) (.pointer (some ⟨d, 0, none⟩)) (by rfl) (fun o ho => wanted_plain ho _) (by kernel_rfl) (by kernel_rfl) (by kernel_rfl) (fun _ _ _ h => h) (fun o ho W hW => by unfold execOp; simp only [ho]; go_simp) HS.out ?_
    simp only [Act.put, List.setIfInBounds_toArray, List.set_cons_zero, List.set_cons_succ]
    refine anyH_pureG 1 (d := 23) (op := .nilCheck (.tmp 22)) (gd := none) (.pointer (some ⟨d, 0, none⟩)) (by rfl) (fun o ho => wanted_plain ho _) (by kernel_rfl) (by kernel_rfl) (by kernel_rfl) (fun _ _ _ h => h) (fun o ho W hW => by unfold execOp; simp only [ho]; go_simp) HS.out ?_
    simp only [Act.put, List.setIfInBounds_toArray, List.set_cons_zero, List.set_cons_succ]
    refine anyH_pureG 2 (d := 24) (op := .fieldAddr 53 (.tmp 23) 2) (gd := none) (.pointer (some ⟨d, 2, none⟩)) (by rfl) (fun o ho => wanted_plain ho _) (by kernel_rfl) (by kernel_rfl) (by kernel_rfl) (fun _ _ _ h => h) (fun o ho W hW => by unfold execOp; simp only [ho]; go_simp) HS.out ?_
    simp only [Act.put, List.setIfInBounds_toArray, List.set_cons_zero, List.set_cons_succ]
    refine anyH_pureG 4 (d := 26) (op := .move (.tmp 1)) (gd := none) (.pointer (some ⟨b, 0, none⟩)) (by rfl) (fun o ho => wanted_plain ho _) (by kernel_rfl) (by kernel_rfl) (by kernel_rfl) (fun _ _ _ h => h) (fun o ho W hW => by unfold execOp; simp only [ho]; go_simp) HS.out ?_
    simp only [Act.put, List.setIfInBounds_toArray, List.set_cons_zero, List.set_cons_succ]
    refine anyH_pureG 5 (d := 27) (op := .nilCheck (.tmp 26)) (gd := none) (.pointer (some ⟨b, 0, none⟩)) (by rfl) (fun o ho => wanted_plain ho _) (by kernel_rfl) (by kernel_rfl) (by kernel_rfl) (fun _ _ _ h => h) (fun o ho W hW => by unfold execOp; simp only [ho]; go_simp) HS.out ?_
    simp only [Act.put, List.setIfInBounds_toArray, List.set_cons_zero, List.set_cons_succ]
    refine anyH_pureG 6 (d := 28) (op := .fieldAddr 122 (.tmp 27) 1) (gd := none) (.pointer (some ⟨b, 1, none⟩)) (by rfl) (fun o ho => wanted_plain ho _) (by kernel_rfl) (by kernel_rfl) (by kernel_rfl) (fun _ _ _ h => h) (fun o ho W hW => by unfold execOp; simp only [ho]; go_simp) HS.out ?_
    simp only [Act.put, List.setIfInBounds_toArray, List.set_cons_zero, List.set_cons_succ]
    refine anyH_loadG 7 (d := 29) (ty := 41) (x := (.tmp 28)) (gd := none) (p := .pointer (some ⟨b, 1, none⟩)) (.slice ra f.zs.length rc) (by rfl) (fun o ho => wanted_plain ho _) (by kernel_rfl) (by kernel_rfl) (by kernel_rfl) (fun _ _ _ h => h) (by rfl) HL1.out HS.out ?_
    simp only [Act.put, List.setIfInBounds_toArray, List.set_cons_zero, List.set_cons_succ]
    refine anyH_pureG 8 (d := 30) (op := .call { callee := .builtin .len, args := #[(.tmp 29)], argTypes := #[41] }) (gd := none) (.int .i64 (f.zs.length : Int)) (by rfl) (fun o ho => wanted_plain ho _) (by kernel_rfl) (by kernel_rfl) (by kernel_rfl) (fun _ _ _ h => h) (fun o ho W hW => by unfold execOp; simp only [ho]; go_simp) HS.out ?_
    simp only [Act.put, List.setIfInBounds_toArray, List.set_cons_zero, List.set_cons_succ]
    refine wpAnyH_all (rs := [3]) (by kernel_rfl) (by simp) ?_
    intro k hk; simp only [List.mem_cons, List.not_mem_nil, or_false] at hk; subst hk
    refine op_atJ 3 (d := some 25) (op := .load 3 (.tmp 24)) (by rfl) ?_
    intro o1 hod1 hoo1
    refine wp_load_g 3 (.tmp 24) hoo1 (.pointer (some ⟨d, 2, none⟩)) (.int .i64 ({ { S with mb := some m } with D := S.D.put (keyS f.nm) (.lit (.int .u64 (b : Int))), n := S.n + 1 }).used) (by rfl) HL2.out ?_
    rw [hod1]
    simp only [Act.put, List.setIfInBounds_toArray, List.set_cons_zero, List.set_cons_succ]
    refine ⟨HS.out, ?_⟩
    refine anyH_pureG 9 (d := 31) (op := .binOp .add 3 (.tmp 25) (.tmp 30) 3) (gd := none) (.int .i64 (wrap64 (({ { S with mb := some m } with D := S.D.put (keyS f.nm) (.lit (.int .u64 (b : Int))), n := S.n + 1 }).used + (f.zs.length : Int)))) (by rfl) (fun o ho => wanted_plain ho _) (by kernel_rfl) (by kernel_rfl) (by kernel_rfl) (fun _ _ _ h => h) (fun o ho W hW => by unfold execOp; simp only [ho]; go_simp; rw [IntKind.wrap_i64]; unfold wrap64; rfl) HS.out ?_
    simp only [Act.put, List.setIfInBounds_toArray, List.set_cons_zero, List.set_cons_succ]
    refine anyH_pureG 10 (d := 32) (op := .nilCheck (.tmp 22)) (gd := none) (.pointer (some ⟨d, 0, none⟩)) (by rfl) (fun o ho => wanted_plain ho _) (by kernel_rfl) (by kernel_rfl) (by kernel_rfl) (fun _ _ _ h => h) (fun o ho W hW => by unfold execOp; simp only [ho]; go_simp) HS.out ?_
    simp only [Act.put, List.setIfInBounds_toArray, List.set_cons_zero, List.set_cons_succ]
    refine anyH_pureG 11 (d := 33) (op := .fieldAddr 53 (.tmp 32) 2) (gd := none) (.pointer (some ⟨d, 2, none⟩)) (by rfl) (fun o ho => wanted_plain ho _) (by kernel_rfl) (by kernel_rfl) (by kernel_rfl) (fun _ _ _ h => h) (fun o ho W hW => by unfold execOp; simp only [ho]; go_simp) HS.out ?_
    simp only [Act.put, List.setIfInBounds_toArray, List.set_cons_zero, List.set_cons_succ]
    obtain ⟨HK9, HMV9, hth⟩ := HK.out.cellSet 2 (.int .i64 (wrap64 (({ { S with mb := some m } with D := S.D.put (keyS f.nm) (.lit (.int .u64 (b : Int))), n := S.n + 1 }).used + (f.zs.length : Int)))) { { { S with mb := some m } with D := S.D.put (keyS f.nm) (.lit (.int .u64 (b : Int))), n := S.n + 1 } with used := wrap64 (({ { S with mb := some m } with D := S.D.put (keyS f.nm) (.lit (.int .u64 (b : Int))), n := S.n + 1 }).used + (f.zs.length : Int)) } rfl (by omega) rfl ⟨rfl, rfl, rfl⟩
    refine wpAnyH_all (rs := [12]) (by kernel_rfl) (by simp) ?_
    intro k hk; simp only [List.mem_cons, List.not_mem_nil, or_false] at hk; subst hk
    refine op_atJ 12 (d := none) (op := .store 3 (.tmp 33) (.tmp 31)) (by rfl) ?_
    intro o0 hod hoo
    refine wp_store_one 3 (.tmp 33) (.tmp 31) hoo d 2 (.int .i64 (wrap64 (({ { S with mb := some m } with D := S.D.put (keyS f.nm) (.lit (.int .u64 (b : Int))), n := S.n + 1 }).used + (f.zs.length : Int)))) (by rfl) (by rfl) hth (by kernel_rfl) (by rfl) (by rfl) ?_
    have HK := Lib.hid HK9
    have HMV := Lib.hid (HMV.out.trans HMV9)
    have HS := Lib.hid ((HK.out.rest.fcells HF.out).2.trans (congrArg some HROW.out))
    rw [hod]
    clear HK9 HMV9 hth HL1 HL2
    simp only [Act.put, List.setIfInBounds_toArray, List.set_cons_zero, List.set_cons_succ]
    refine ⟨HS.out, ?_⟩
    refine wpAnyH_done (by kernel_rfl) ?_ _
    clear HS
    go_wp2_with fail
    go_end0
    exact ⟨rfl, m, HK.out, HMV.out⟩
  | some m =>
    rw [hmb] at c1
    have HK := Lib.hid (show DK B d { S with mb := some m } w from by rw [← hmb]; exact h)
    have HMV := Lib.hid (show Mov S d { S with mb := some m } w w from by rw [← hmb]; exact Mov.refl S d w)
    clear h hrow hf
    have hq1 := mapsome m
    go_enter Try.func72, Try.ntmps72
    go_wp2_with fail
    (try dsimp only [Act.put, List.setIfInBounds_toArray, List.set_cons_zero, List.set_cons_succ])
    have HK := Lib.hid (HK.out.below (Below.refl _ _).drew)
    have HMV := Lib.hid (HMV.out.trans (Mov.ofBelow (S := { S with mb := some m }) (d := d) (Below.refl _ _).drew))
    have HS := Lib.hid (show World.cell? _ ⟨d, 1, none⟩ = some (.map (some m)) ∧ World.cell? _ ⟨b, 0, none⟩ = some (.string f.nm) from ⟨HK.out.cells.2.1, (HK.out.rest.fcells HF.out).1⟩)
    have HL2 := Lib.hid (fun W (hW : World.cell? W ⟨d, 1, none⟩ = some (.map (some m)) ∧ World.cell? W ⟨b, 0, none⟩ = some (.string f.nm)) => run_cell_map W ⟨d, 1, none⟩ _ hW.1)
    have HL1 := Lib.hid (fun W (hW : World.cell? W ⟨d, 1, none⟩ = some (.map (some m)) ∧ World.cell? W ⟨b, 0, none⟩ = some (.string f.nm)) => run_cell_s W ⟨b, 0, none⟩ _ hW.2)
    refine anyH_begin (S := fun W => World.cell? W ⟨d, 1, none⟩ = some (.map (some m)) ∧ World.cell? W ⟨b, 0, none⟩ = some (.string f.nm)) (by kernel_rfl) ?_
    refine anyH_pureG 0 (d := 13) (op := .move (.tmp 0)) (gd := none) (.pointer (some ⟨d, 0, none⟩)) (by rfl) (fun o ho => wanted_plain ho _) (by kernel_rfl) (by kernel_rfl) (by kernel_rfl) (fun _ _ _ h => h) (fun o ho W hW => by unfold execOp; simp only [ho]; go_simp) HS.out ?_
    simp only [Act.put, List.setIfInBounds_toArray, List.set_cons_zero, List.set_cons_succ]
    refine anyH_pureG 1 (d := 14) (op := .nilCheck (.tmp 13)) (gd := none) (.pointer (some ⟨d, 0, none⟩)) (by rfl) (fun o ho => wanted_plain ho _) (by kernel_rfl) (by kernel_rfl) (by kernel_rfl) (fun _ _ _ h => h) (fun o ho W hW => by unfold execOp; simp only [ho]; go_simp) HS.out ?_
    simp only [Act.put, List.setIfInBounds_toArray, List.set_cons_zero, List.set_cons_succ]
    refine anyH_pureG 2 (d := 15) (op := .fieldAddr 53 (.tmp 14) 1) (gd := none) (.pointer (some ⟨d, 1, none⟩)) (by rfl) (fun o ho => wanted_plain ho _) (by kernel_rfl) (by kernel_rfl) (by kernel_rfl) (fun _ _ _ h => h) (fun o ho W hW => by unfold execOp; simp only [ho]; go_simp) HS.out ?_
    simp only [Act.put, List.setIfInBounds_toArray, List.set_cons_zero, List.set_cons_succ]
    refine anyH_loadG 3 (d := 16) (ty := 50) (x := (.tmp 15)) (gd := none) (p := .pointer (some ⟨d, 1, none⟩)) (.map (some m)) (by rfl) (fun o ho => wanted_plain ho _) (by kernel_rfl) (by kernel_rfl) (by kernel_rfl) (fun _ _ _ h => h) (by rfl) HL2.out HS.out ?_
    simp only [Act.put, List.setIfInBounds_toArray, List.set_cons_zero, List.set_cons_succ]
    refine anyH_pureG 4 (d := 17) (op := .move (.tmp 1)) (gd := none) (.pointer (some ⟨b, 0, none⟩)) (by rfl) (fun o ho => wanted_plain ho _) (by kernel_rfl) (by kernel_rfl) (by kernel_rfl) (fun _ _ _ h => h) (fun o ho W hW => by unfold execOp; simp only [ho]; go_simp) HS.out ?_
    simp only [Act.put, List.setIfInBounds_toArray, List.set_cons_zero, List.set_cons_succ]
    refine anyH_pureG 5 (d := 18) (op := .nilCheck (.tmp 17)) (gd := none) (.pointer (some ⟨b, 0, none⟩)) (by rfl) (fun o ho => wanted_plain ho _) (by kernel_rfl) (by kernel_rfl) (by kernel_rfl) (fun _ _ _ h => h) (fun o ho W hW => by unfold execOp; simp only [ho]; go_simp) HS.out ?_
    simp only [Act.put, List.setIfInBounds_toArray, List.set_cons_zero, List.set_cons_succ]
    refine anyH_pureG 6 (d := 19) (op := .fieldAddr 122 (.tmp 18) 0) (gd := none) (.pointer (some ⟨b, 0, none⟩)) (by rfl) (fun o ho => wanted_plain ho _) (by kernel_rfl) (by kernel_rfl) (by kernel_rfl) (fun _ _ _ h => h) (fun o ho W hW => by unfold execOp; simp only [ho]; go_simp) HS.out ?_
    simp only [Act.put, List.setIfInBounds_toArray, List.set_cons_zero, List.set_cons_succ]
    refine anyH_loadG 7 (d := 20) (ty := 9) (x := (.tmp 19)) (gd := none) (p := .pointer (some ⟨b, 0, none⟩)) (.string f.nm) (by rfl) (fun o ho => wanted_plain ho _) (by kernel_rfl) (by kernel_rfl) (by kernel_rfl) (fun _ _ _ h => h) (by rfl) HL1.out HS.out ?_
    simp only [Act.put, List.setIfInBounds_toArray, List.set_cons_zero, List.set_cons_succ]
    refine anyH_pureG 8 (d := 21) (op := .move (.tmp 1)) (gd := none) (.pointer (some ⟨b, 0, none⟩)) (by rfl) (fun o ho => wanted_plain ho _) (by kernel_rfl) (by kernel_rfl) (by kernel_rfl) (fun _ _ _ h => h) (fun o ho W hW => by unfold execOp; simp only [ho]; go_simp) HS.out ?_
    simp only [Act.put, List.setIfInBounds_toArray, List.set_cons_zero, List.set_cons_succ]
    obtain ⟨w7, hrun, HK9, HMV9⟩ := HK.out.mapPut rfl hn HF.out hs
    refine wpAnyH_all (rs := [9]) (by kernel_rfl) (by simp) ?_
    intro k hk; simp only [List.mem_cons, List.not_mem_nil, or_false] at hk; subst hk
    refine op_atJ 9 (d := none) (op := .mapUpdate 50 (.tmp 16) (.tmp 20) (.tmp 21)) (by rfl) ?_
    intro o0 hod hoo
    refine wp_mapUpdateD 50 (.tmp 16) (.tmp 20) (.tmp 21) hoo (.map (some m)) (.string f.nm) (.pointer (some ⟨b, 0, none⟩)) (by rfl) (by rfl) (by rfl) hrun ?_
    have HK := Lib.hid HK9
    have HMV := Lib.hid (HMV.out.trans HMV9)
    rw [hod]
    clear HK9 HMV9 HL1 HL2 hrun
    simp only [Act.put, List.setIfInBounds_toArray, List.set_cons_zero, List.set_cons_succ]
    refine ⟨⟨HK.out.cells.2.1, (HK.out.rest.fcells HF.out).1⟩, ?_⟩
    clear HS
    refine wpAnyH_done (by kernel_rfl) ?_ _
    go_wp2_with fail
    (try dsimp only [Act.put, List.setIfInBounds_toArray, List.set_cons_zero, List.set_cons_succ])
    have HK := Lib.hid (HK.out.below (Below.refl _ _).drew)
    have HMV := Lib.hid (HMV.out.trans (Mov.ofBelow (S := { { S with mb := some m } with D := S.D.put (keyS f.nm) (.lit (.int .u64 (b : Int))), n := S.n + 1 }) (d := d) (Below.refl _ _).drew))
    have HS := Lib.hid ((HK.out.rest.fcells HF.out).2.trans (congrArg some HROW.out))
    have HL2 := Lib.hid (run_cell_i _ ⟨d, 2, none⟩ _ HK.out.cells.2.2.1)
    have HL1 := Lib.hid (fun W (hW : W.cell? ⟨b, 1, none⟩ = some (.slice ra f.zs.length rc)) => run_cell_b W ⟨b, 1, none⟩ ra f.zs.length rc hW)
    refine anyH_begin (S := fun W => W.cell? ⟨b, 1, none⟩ = some (.slice ra f.zs.length rc)) (by kernel_rfl) ?_
    refine anyH_pureG 0 (d := 22) (op := .move (.tmp 0)) (gd := none) (.pointer (some ⟨d, 0, none⟩)) (by rfl) (fun o ho => wanted_plain ho _) (by kernel_rfl) (by kernel_rfl) (by kernel_rfl) (fun _ _ _ h => h) (fun o ho W hW => by unfold execOp; simp only [ho]; go_simp) HS.out ?_
    simp only [Act.put, List.setIfInBounds_toArray, List.set_cons_zero, List.set_cons_succ]
    refine anyH_pureG 1 (d := 23) (op := .nilCheck (.tmp 22)) (gd := none) (.pointer (some ⟨d, 0, none⟩)) (by rfl) (fun o ho => wanted_plain ho _) (by kernel_rfl) (by kernel_rfl) (by kernel_rfl) (fun _ _ _ h => h) (fun o ho W hW => by unfold execOp; simp only [ho]; go_simp) HS.out ?_
    simp only [Act.put, List.setIfInBounds_toArray, List.set_cons_zero, List.set_cons_succ]
    refine anyH_pureG 2 (d := 24) (op := .fieldAddr 53 (.tmp 23) 2) (gd := none) (.pointer (some ⟨d, 2, none⟩)) (by rfl) (fun o ho => wanted_plain ho _) (by kernel_rfl) (by kernel_rfl) (by kernel_rfl) (fun _ _ _ h => h) (fun o ho W hW => by unfold execOp; simp only [ho]; go_simp) HS.out ?_
    simp only [Act.put, List.setIfInBounds_toArray, List.set_cons_zero, List.set_cons_succ]
    refine anyH_pureG 4 (d := 26) (op := .move (.tmp 1)) (gd := none) (.pointer (some ⟨b, 0, none⟩)) (by rfl) (fun o ho => wanted_plain ho _) (by kernel_rfl) (by kernel_rfl) (by kernel_rfl) (fun _ _ _ h => h) (fun o ho W hW => by unfold execOp; simp only [ho]; go_simp) HS.out ?_
    simp only [Act.put, List.setIfInBounds_toArray, List.set_cons_zero, List.set_cons_succ]
    refine anyH_pureG 5 (d := 27) (op := .nilCheck (.tmp 26)) (gd := none) (.pointer (some ⟨b, 0, none⟩)) (by rfl) (fun o ho => wanted_plain ho _) (by kernel_rfl) (by kernel_rfl) (by kernel_rfl) (fun _ _ _ h => h) (fun o ho W hW => by unfold execOp; simp only [ho]; go_simp) HS.out ?_
    simp only [Act.put, List.setIfInBounds_toArray, List.set_cons_zero, List.set_cons_succ]
    refine anyH_pureG 6 (d := 28) (op := .fieldAddr 122 (.tmp 27) 1) (gd := none) (.pointer (some ⟨b, 1, none⟩)) (by rfl) (fun o ho => wanted_plain ho _) (by kernel_rfl) (by kernel_rfl) (by kernel_rfl) (fun _ _ _ h => h) (fun o ho W hW => by unfold execOp; simp only [ho]; go_simp) HS.out ?_
    simp only [Act.put, List.setIfInBounds_toArray, List.set_cons_zero, List.set_cons_succ]
    refine anyH_loadG 7 (d := 29) (ty := 41) (x := (.tmp 28)) (gd := none) (p := .pointer (some ⟨b, 1, none⟩)) (.slice ra f.zs.length rc) (by rfl) (fun o ho => wanted_plain ho _) (by kernel_rfl) (by kernel_rfl) (by kernel_rfl) (fun _ _ _ h => h) (by rfl) HL1.out HS.out ?_
    simp only [Act.put, List.setIfInBounds_toArray, List.set_cons_zero, List.set_cons_succ]
    refine anyH_pureG 8 (d := 30) (op := .call { callee := .builtin .len, args := #[(.tmp 29)], argTypes := #[41] }) (gd := none) (.int .i64 (f.zs.length : Int)) (by rfl) (fun o ho => wanted_plain ho _) (by kernel_rfl) (by kernel_rfl) (by kernel_rfl) (fun _ _ _ h => h) (fun o ho W hW => by unfold execOp; simp only [ho]; go_simp) HS.out ?_
    simp only [Act.put, List.setIfInBounds_toArray, List.set_cons_zero, List.set_cons_succ]
    refine wpAnyH_all (rs := [3]) (by kernel_rfl) (by simp) ?_
    intro k hk; simp only [List.mem_cons, List.not_mem_nil, or_false] at hk; subst hk
    refine op_atJ 3 (d := some 25) (op := .load 3 (.tmp 24)) (by rfl) ?_
    intro o1 hod1 hoo1
    refine wp_load_g 3 (.tmp 24) hoo1 (.pointer (some ⟨d, 2, none⟩)) (.int .i64 ({ { S with mb := some m } with D := S.D.put (keyS f.nm) (.lit (.int .u64 (b : Int))), n := S.n + 1 }).used) (by rfl) HL2.out ?_
    rw [hod1]
    simp only [Act.put, List.setIfInBounds_toArray, List.set_cons_zero, List.set_cons_succ]
    refine ⟨HS.out, ?_⟩
    refine anyH_pureG 9 (d := 31) (op := .binOp .add 3 (.tmp 25) (.tmp 30) 3) (gd := none) (.int .i64 (wrap64 (({ { S with mb := some m } with D := S.D.put (keyS f.nm) (.lit (.int .u64 (b : Int))), n := S.n + 1 }).used + (f.zs.length : Int)))) (by rfl) (fun o ho => wanted_plain ho _) (by kernel_rfl) (by kernel_rfl) (by kernel_rfl) (fun _ _ _ h => h) (fun o ho W hW => by unfold execOp; simp only [ho]; go_simp; rw [IntKind.wrap_i64]; unfold wrap64; rfl) HS.out ?_
    simp only [Act.put, List.setIfInBounds_toArray, List.set_cons_zero, List.set_cons_succ]
    refine anyH_pureG 10 (d := 32) (op := .nilCheck (.tmp 22)) (gd := none) (.pointer (some ⟨d, 0, none⟩)) (by rfl) (fun o ho => wanted_plain ho _) (by kernel_rfl) (by kernel_rfl) (by kernel_rfl) (fun _ _ _ h => h) (fun o ho W hW => by unfold execOp; simp only [ho]; go_simp) HS.out ?_
    simp only [Act.put, List.setIfInBounds_toArray, List.set_cons_zero, List.set_cons_succ]
    refine anyH_pureG 11 (d := 33) (op := .fieldAddr 53 (.tmp 32) 2) (gd := none) (.pointer (some ⟨d, 2, none⟩)) (by rfl) (fun o ho => wanted_plain ho _) (by kernel_rfl) (by kernel_rfl) (by kernel_rfl) (fun _ _ _ h => h) (fun o ho W hW => by unfold execOp; simp only [ho]; go_simp) HS.out ?_
    simp only [Act.put, List.setIfInBounds_toArray, List.set_cons_zero, List.set_cons_succ]
    obtain ⟨HK9, HMV9, hth⟩ := HK.out.cellSet 2 (.int .i64 (wrap64 (({ { S with mb := some m } with D := S.D.put (keyS f.nm) (.lit (.int .u64 (b : Int))), n := S.n + 1 }).used + (f.zs.length : Int)))) { { { S with mb := some m } with D := S.D.put (keyS f.nm) (.lit (.int .u64 (b : Int))), n := S.n + 1 } with used := wrap64 (({ { S with mb := some m } with D := S.D.put (keyS f.nm) (.lit (.int .u64 (b : Int))), n := S.n + 1 }).used + (f.zs.length : Int)) } rfl (by omega) rfl ⟨rfl, rfl, rfl⟩
    refine wpAnyH_all (rs := [12]) (by kernel_rfl) (by simp) ?_
    intro k hk; simp only [List.mem_cons, List.not_mem_nil, or_false] at hk; subst hk
    refine op_atJ 12 (d := none) (op := .store 3 (.tmp 33) (.tmp 31)) (by rfl) ?_
    intro o0 hod hoo
    refine wp_store_one 3 (.tmp 33) (.tmp 31) hoo d 2 (.int .i64 (wrap64 (({ { S with mb := some m } with D := S.D.put (keyS f.nm) (.lit (.int .u64 (b : Int))), n := S.n + 1 }).used + (f.zs.length : Int)))) (by rfl) (by rfl) hth (by kernel_rfl) (by rfl) (by rfl) ?_
    have HK := Lib.hid HK9
    have HMV := Lib.hid (HMV.out.trans HMV9)
    have HS := Lib.hid ((HK.out.rest.fcells HF.out).2.trans (congrArg some HROW.out))
    rw [hod]
    clear HK9 HMV9 hth HL1 HL2
    simp only [Act.put, List.setIfInBounds_toArray, List.set_cons_zero, List.set_cons_succ]
    refine ⟨HS.out, ?_⟩
    refine wpAnyH_done (by kernel_rfl) ?_ _
    clear HS
    go_wp2_with fail
    go_end0
    exact ⟨rfl, m, HK.out, HMV.out⟩
end Go.Proofs.Ytihbgigledmliaa
