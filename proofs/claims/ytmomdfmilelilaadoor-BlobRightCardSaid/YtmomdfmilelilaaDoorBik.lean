/-
  A store: Put.
-/
import Derived.Test.YtmomdfmilelilaaDoorBie
namespace Go.Proofs.YtmomdfmilelilaaDoor
open Go.RowKit
set_option linter.unusedVariables false
theorem results_row_tmpB {P : Program} {fn : Func} {p u : Tmp} {ty : TypeId} (h : fn.results = #[.cell p ty, .tmp u]) (tmps : Array Value) (w : World) (g : Nat) (t : TypeId) (cs : Array Value) (fr : Nat × Nat) (d : TypeDesc)
    (hp : tmps.getD p undef = .pointer (some ⟨g, 0, none⟩)) (hg : w.heap[g]? = some (.cells cs t fr))
    (hu : P.underlying ty = some d) (hd : (match d with | .struct _ | .array _ _ => true | _ => false) = true) (hi : (P.info? ty).map (·.size) = some cs.size) :
    (results fn tmps).run P w = .ok (.tuple #[.agg cs, tmps.getD u undef]) w := by
  rw [results_cell_tmp h]
  have hp' : tmps[p]?.getD undef = .pointer (some ⟨g, 0, none⟩) := by simpa using hp
  simp [hp', asAddr, run_loadVar_row w g t ty cs fr d hg hu hd hi, Result.andThen]
theorem setRow_sizeB (w : World) (g : Nat) (row : Array Value) : (w.setRow g row).heap.size = w.heap.size := by unfold World.setRow; simp
theorem setRow_otherB (w : World) (g : Nat) (row : Array Value) (j : Nat) (hj : j ≠ g) : (w.setRow g row).heap[j]? = w.heap[j]? := by
  unfold World.setRow
  simp only
  rw [Array.getElem?_modify, if_neg (fun e => hj e.symm)]
/-- what Put finds: the store, the result, the sum -/
structure Sp3 (sb d rb X6 : Nat) (ds : List Nat) (W : World) : Prop where
  cs : W.cell? ⟨sb, 0, none⟩ = some (.pointer (some ⟨d, 0, none⟩))
  rr : Brow W rb 37 zs32
  row : Brow W X6 37 ds
  lt : sb < W.heap.size
theorem Sp3.below {sb d rb X6 : Nat} {ds : List Nat} {W W' : World} (h : Sp3 sb d rb X6 ds W) (hb : Below W.heap.size W W') : Sp3 sb d rb X6 ds W' := ⟨(hb.cell (p := ⟨sb, 0, none⟩) h.lt).trans h.cs, h.rr.below hb h.rr.lt, h.row.below hb h.row.lt, Nat.lt_of_lt_of_le h.lt hb.size⟩
theorem Sp3.drew {sb d rb X6 : Nat} {ds : List Nat} {W : World} (h : Sp3 sb d rb X6 ds W) : Sp3 sb d rb X6 ds W.drew := h.below (below_drewN' _ W 1)
/-- bytes are put -/
def Ad.put (A : Ad) (ps : List Nat) : Ad × Int := if (szA A (fileB (Sha.sum ps))).2 = 6 then A.wr (fileB (Sha.sum ps)) ps else (A, (szA A (fileB (Sha.sum ps))).2)
def PutR (X : Nat → Prop) (B d sb N : Nat) (w : World) (ds : List Nat) (r : Ad × Int) (e : Ending) (w' : World) : Prop :=
  ∃ dz : List Nat, ((r.2 = 0 ∧ dz = ds) ∨ (r.2 ≠ 0 ∧ dz = zs32)) ∧ e = .returned (.tuple #[.agg (cellsOf dz).toArray, .int .i64 r.2]) ∧ Bs X B d sb N r.1 w' ∧ Below B w w' ∧ KpD X w w'
set_option maxRecDepth 100000 in
set_option maxHeartbeats 8000000 in
theorem bput_c {X : Nat → Prop} {B d N sb : Nat} {A : Ad} {w : World} (h : Bs X B d sb N A w) (ht : Tab w) (hN : N < 10000000) (pa : Option Addr) (pn pc : Nat) (ps : List Nat) (hr : Rd w pa pn ps) (hpc : pn ≤ pc) (hcm : pc ≤ 9223372036854775807) (hno : ∀ b o s, pa = some ⟨b, o, s⟩ → pn ≠ 0 → b < B ∨ X b) (hnil : pa = none → pc = 0) (hB0 : 0 < B) (hpl : pn ≤ 1048576) :
    Calls Tryd.prog 8 #[.pointer (some ⟨sb, 0, none⟩), .slice pa pn pc] w (PutR X B d sb (N + 24) w (Sha.sum ps) (A.put ps)) := by
  obtain ⟨ds, hds⟩ : ∃ ds, Sha.sum ps = ds := ⟨_, rfl⟩
  have hD : D32 ds := by rw [← hds]; exact ⟨sum_len _, sum_byte _⟩
  obtain ⟨rb, hrb⟩ : ∃ rb, rb = w.heap.size := ⟨_, rfl⟩
  have hBw : B ≤ w.heap.size := Nat.le_of_lt (Nat.lt_of_le_of_lt h.dx.base.1 h.dx.base.2)
  have hpl1 : ¬ 1048576 < (pn : Int) := by omega
  have HI32 := Lib.hid (show (Tryd.prog.info? 37).map (·.size) = some (cellsOf zs32).toArray.size from by rw [cellsOf_size, zs32_len]; exact info_dig)
  have HI32D := Lib.hid (show (Tryd.prog.info? 37).map (·.size) = some (cellsOf ds).toArray.size from by rw [cellsOf_size, hD.1]; exact info_dig)
  have HSZD := Lib.hid (show (cellsOf zs32).toArray.size = (cellsOf ds).toArray.size from by rw [cellsOf_size, cellsOf_size, zs32_len, hD.1])
  have HSUM := Lib.hid (fun W (hW : Below w.heap.size w W) => dsum_c pa pn pc ps W (hr.below hW) hpc hcm (by omega) (Tab.below ht hW ht.pos))
  have HPUT := Lib.hid (show A.put ps = if (szA A (fileB ds)).2 = 6 then A.wr (fileB ds) ps else (A, (szA A (fileB ds)).2) from by unfold Ad.put; rw [hds])
  have HDSS := Lib.hid hds
  have HH := Lib.hid h
  have HR := Lib.hid hr
  have HNO := Lib.hid hno
  have HD32 := Lib.hid hD
  obtain ⟨r, hrr⟩ : ∃ r, A.put ps = r := ⟨_, rfl⟩
  rw [hrr, hds]
  rw [hrr] at HPUT
  clear h hr ht hno hds hD hrr
  go_enter Tryd.func8, Tryd.ntmps8
  go_wp2_with fail
  refine gen_calls (F := fun W => Brow W w.heap.size 37 zs32 ∧ Below w.heap.size w W ∧ w.heap.size < W.heap.size) ⟨heap_new _ _, (Below.refl _ _).alloc (Nat.le_refl _) _, by simp⟩ ?_
  rintro w0 ⟨hz0, hb0, hl0⟩
  refine (HSUM.out w0 hb0).mono ?_
  rintro e1 w1 ⟨rfl, hb1⟩
  rw [HDSS.out]
  obtain ⟨X6, hX6⟩ : ∃ X6, X6 = w1.heap.size := ⟨_, rfl⟩
  have HN1 := Lib.hid (show ∀ O : Obj, (w1.alloc O).heap[w1.heap.size]? = some O from fun O => heap_new w1 O)
  have HZ1 := Lib.hid (hz0.below hb1 hl0)
  have HB1 := Lib.hid (hb0.trans (hb1.mono hb0.size))
  have HL1 := Lib.hid (Nat.lt_of_lt_of_le hl0 hb1.size)
  clear hz0 hb0 hl0 hb1 HSUM
  rw [← hrb]
  have HRE := Lib.hid hrb
  have HXE := Lib.hid hX6
  clear hrb hX6
  go_wp2_with (first | (refine wpList_store_row (by rfl) 37 _ _ (by rfl) w1.heap.size (cellsOf ds).toArray (by rfl) (by rfl) 37 (cellsOf zs32).toArray (by exact HN1.out _) HI32D.out HSZD.out (cellsOf_all _) ?_))
  refine gen_code (F := fun W => Brow W rb 37 zs32 ∧ Brow W w1.heap.size 37 ds ∧ Below w1.heap.size w1 W ∧ w1.heap.size < W.heap.size) ⟨by
    have hrb := HRE.out
    have e1 : rb ≠ w1.heap.size := by rw [hrb]; exact Nat.ne_of_lt HL1.out
    exact ((Below.refl w1.heap.size w1).alloc (Nat.le_refl _) _ |>.setRow (Nat.le_refl _) _).block rb (by rw [hrb]; exact HL1.out) |>.trans (by rw [hrb]; exact HZ1.out), setRow_heap _ _ _ _ _ _ (HN1.out _), ((Below.refl w1.heap.size w1).alloc (Nat.le_refl _) _).setRow (Nat.le_refl _) _, by rw [setRow_sizeB]; simp⟩ ?_
  rintro w2 ⟨hz2, hx2, hb2, hl2⟩
  have hrb := HRE.out
  have hX6 := HXE.out
  rw [← hX6] at hx2 hl2 ⊢
  have hb02 := HB1.out.trans (hb2.mono HB1.out.size)
  have hsb := HH.out.dx.lt sb HH.out.sx
  have HS := Lib.hid (show Sp3 sb d rb X6 ds (World.drew w2) from ⟨(hb02.cell (p := ⟨sb, 0, none⟩) hsb).trans HH.out.st, hz2, hx2, Nat.lt_of_lt_of_le hsb hb02.size⟩)
  obtain ⟨n, er, hne⟩ : ∃ n er, szA A (fileB ds) = (n, er) := ⟨_, _, rfl⟩
  have hfs := fileB_small ds HD32.out
  have HSZ := Lib.hid (show ∀ W, Below (World.drew w2).heap.size (World.drew w2) W → Calls Tryd.prog 24 #[.pointer (some ⟨d, 0, none⟩), .string (fileB ds)] W fun e w' => e = .returned (.tuple #[.int .i64 n, .int .i64 er]) ∧ w' = W from fun W hW => by
    have hdx := (HH.out.dx.below hb02).below (w' := W) ((below_drewN' _ w2 1).trans hW)
    obtain ⟨S, k1, k2, _⟩ := hdx.ex
    refine (asize k1 k2 (fileB ds) hfs).mono ?_
    intro e w' hz
    have := szA_of hz
    rw [hne] at this
    exact this)
  have HF := Lib.hid (fun W => file_c ds W HD32.out)
  have HLD := Lib.hid (show ∀ W, Sp3 sb d rb X6 ds W → (Instr.loadAt 37 (.pointer (some ⟨X6, 0, none⟩))).run Tryd.prog W = .ok (.agg (cellsOf ds).toArray) W from fun W hW => run_loadAt_mid W X6 0 37 (cellsOf ds) _ hW.row.range Tryd.underlying37 rfl (by rw [cellsOf_length, HD32.out.1]; exact info_dig))
  have HL2 := Lib.hid (fun W (hW : Sp3 sb d rb X6 ds W) => run_cell_disk W ⟨sb, 0, none⟩ _ hW.cs)
  have HNE := Lib.hid hne
  have HBW := Lib.hid hb02
  have HX6E := Lib.hid (show rb < X6 ∧ w.heap.size ≤ rb from ⟨by rw [hX6, hrb]; exact HL1.out, by rw [hrb]; exact Nat.le_refl _⟩)
  clear hz2 hx2 hb2 hl2 hb02 hsb hne hX6 HN1 HZ1 HB1 HL1 hrb HRE HXE
  refine anyH_begin (S := Sp3 sb d rb X6 ds) (by kernel_rfl) ?_
  refine anyH_pureG 0 (d := 21) (op := .move (.tmp 0)) (gd := none) (.pointer (some ⟨sb, 0, none⟩)) (by rfl) (fun o ho => wanted_plain ho _) (by kernel_rfl) (by kernel_rfl) (by kernel_rfl) (fun _ _ _ h => h) (fun o ho W hW => by unfold execOp; simp only [ho]; go_simp) HS.out ?_
  simp only [Act.put, List.setIfInBounds_toArray, List.set_cons_zero, List.set_cons_succ]
  refine anyH_pureG 1 (d := 22) (op := .nilCheck (.tmp 21)) (gd := none) (.pointer (some ⟨sb, 0, none⟩)) (by rfl) (fun o ho => wanted_plain ho _) (by kernel_rfl) (by kernel_rfl) (by kernel_rfl) (fun _ _ _ h => h) (fun o ho W hW => by unfold execOp; simp only [ho]; go_simp) HS.out ?_
  simp only [Act.put, List.setIfInBounds_toArray, List.set_cons_zero, List.set_cons_succ]
  refine anyH_pureG 2 (d := 23) (op := .fieldAddr 55 (.tmp 22) 0) (gd := none) (.pointer (some ⟨sb, 0, none⟩)) (by rfl) (fun o ho => wanted_plain ho _) (by kernel_rfl) (by kernel_rfl) (by kernel_rfl) (fun _ _ _ h => h) (fun o ho W hW => by unfold execOp; simp only [ho]; go_simp) HS.out ?_
  simp only [Act.put, List.setIfInBounds_toArray, List.set_cons_zero, List.set_cons_succ]
  refine anyH_loadG 3 (d := 24) (ty := 24) (x := (.tmp 23)) (gd := none) (p := .pointer (some ⟨sb, 0, none⟩)) (.pointer (some ⟨d, 0, none⟩)) (by rfl) (fun o ho => wanted_plain ho _) (by kernel_rfl) (by kernel_rfl) (by kernel_rfl) (fun _ _ _ h => h) (by rfl) HL2.out HS.out ?_
  simp only [Act.put, List.setIfInBounds_toArray, List.set_cons_zero, List.set_cons_succ]
  refine anyH_loadG 4 (d := 25) (ty := 37) (x := (.tmp 6)) (gd := none) (p := .pointer (some ⟨X6, 0, none⟩)) (.agg (cellsOf ds).toArray) (by rfl) (fun o ho => wanted_plain ho _) (by kernel_rfl) (by kernel_rfl) (by kernel_rfl) (fun _ _ _ h => h) (by rfl) HLD.out HS.out ?_
  simp only [Act.put, List.setIfInBounds_toArray, List.set_cons_zero, List.set_cons_succ]
  refine anyH_callG 5 (d := some 26) (f := 25) (xs := #[(.tmp 25)]) (ts := #[37]) (gd := none) (vs := #[.agg (cellsOf ds).toArray]) (by kernel_rfl) (by rfl) (fun o ho => wanted_plain ho _) (by go_simp) (by go_simp) (HF.out _) ?_
  rintro e3 w3 ⟨rfl, hb3⟩
  have HS3 := Lib.hid (HS.out.below hb3)
  have HB3 := Lib.hid hb3
  clear hb3
  refine ⟨_, rfl, HS3.out, fun hS => ?_⟩
  clear hS
  simp only [Act.put, List.setIfInBounds_toArray, List.set_cons_zero, List.set_cons_succ]
  refine anyH_callG 6 (d := some 27) (f := 24) (xs := #[(.tmp 24), (.tmp 26)]) (ts := #[24, 9]) (gd := none) (vs := #[.pointer (some ⟨d, 0, none⟩), .string (fileB ds)]) (by kernel_rfl) (by rfl) (fun o ho => wanted_plain ho _) (by go_simp) (by go_simp) (HSZ.out _ HB3.out) ?_
  rintro e4 w4 ⟨rfl, hw4⟩
  have HS4 := Lib.hid (show Sp3 sb d rb X6 ds w4 from by rw [hw4]; exact HS3.out)
  have HW4 := Lib.hid hw4
  clear hw4
  refine ⟨_, rfl, HS4.out, fun hS => ?_⟩
  clear hS
  simp only [Act.put, List.setIfInBounds_toArray, List.set_cons_zero, List.set_cons_succ]
  refine anyH_pureG 7 (d := 20) (op := .move (.tmp 27)) (gd := none) (.tuple #[.int .i64 n, .int .i64 er]) (by rfl) (fun o ho => wanted_plain ho _) (by kernel_rfl) (by kernel_rfl) (by kernel_rfl) (fun _ _ _ h => h) (fun o ho W hW => by unfold execOp; simp only [ho]; go_simp) HS4.out ?_
  simp only [Act.put, List.setIfInBounds_toArray, List.set_cons_zero, List.set_cons_succ]
  refine anyH_pureG 8 (d := 28) (op := .extract (.tmp 20) 0) (gd := none) (.int .i64 n) (by rfl) (fun o ho => wanted_plain ho _) (by kernel_rfl) (by kernel_rfl) (by kernel_rfl) (fun _ _ _ h => h) (fun o ho W hW => by unfold execOp; simp only [ho]; go_simp) HS4.out ?_
  simp only [Act.put, List.setIfInBounds_toArray, List.set_cons_zero, List.set_cons_succ]
  refine anyH_pureG 9 (d := 29) (op := .extract (.tmp 20) 1) (gd := none) (.int .i64 er) (by rfl) (fun o ho => wanted_plain ho _) (by kernel_rfl) (by kernel_rfl) (by kernel_rfl) (fun _ _ _ h => h) (fun o ho W hW => by unfold execOp; simp only [ho]; go_simp) HS4.out ?_
  simp only [Act.put, List.setIfInBounds_toArray, List.set_cons_zero, List.set_cons_succ]
  refine anyH_pureG 10 (d := 7) (op := .assign (.tmp 28)) (gd := none) (.int .i64 n) (by rfl) (fun o ho => wanted_plain ho _) (by kernel_rfl) (by kernel_rfl) (by kernel_rfl) (fun _ _ _ h => h) (fun o ho W hW => by unfold execOp; simp only [ho]; go_simp) HS4.out ?_
  simp only [Act.put, List.setIfInBounds_toArray, List.set_cons_zero, List.set_cons_succ]
  refine anyH_pureG 11 (d := 8) (op := .assign (.tmp 29)) (gd := none) (.int .i64 er) (by rfl) (fun o ho => wanted_plain ho _) (by kernel_rfl) (by kernel_rfl) (by kernel_rfl) (fun _ _ _ h => h) (fun o ho W hW => by unfold execOp; simp only [ho]; go_simp) HS4.out ?_
  simp only [Act.put, List.setIfInBounds_toArray, List.set_cons_zero, List.set_cons_succ]
  refine wpAnyH_done (by kernel_rfl) ?_ _
  have HB4 := Lib.hid (show Below w.heap.size w w4 from by rw [HW4.out]; exact (HBW.out.trans (below_drewN' _ w2 1)).trans (HB3.out.mono (Nat.le_trans HBW.out.size (Nat.le_refl _))))
  clear HS HS3 HLD HL2 HSZ HBW HB3 HW4
  by_cases h6 : er = 6
  · subst h6
    have hx := HNE.out
    have HPR := Lib.hid (show r = A.wr (fileB ds) ps from by rw [HPUT.out, hx]; exact if_pos rfl)
    clear hx HPUT HNE
    go_wp2_with (first | (refine wpList_load_row (by rfl) 37 _ (by rfl) X6 (by rfl) _ (cellsOf ds).toArray (0, 0) _ HS4.out.row Tryd.underlying37 (by rfl) HI32D.out ?_))
    refine (HF.out w4).mono ?_
    rintro e5 w5 ⟨rfl, hb5⟩
    have hb05 := HB4.out.trans (hb5.mono HB4.out.size)
    have hs5 := HS4.out.below hb5
    have hd5 : Dx (fun j => X j ∨ j = rb ∨ j = X6) B d N A w5 := HH.out.dx.belowY hb05 (fun j hj => hj.imp id fun e => by have := HX6E.out; omega) (fun j hj => by
      rcases hj with hj | rfl | rfl
      · exact Nat.lt_of_lt_of_le (HH.out.dx.lt j hj) hb05.size
      · exact hs5.rr.lt
      · exact hs5.row.lt)
    have HWR := Lib.hid (bwrite_c hd5 (by omega) (Nat.le_trans hBw hb05.size) (.inl HH.out.sx) hs5.cs (fileB ds) hfs pa pn pc ps (HR.out.below hb05) (fun b o s e hn => (HNO.out b o s e hn).imp id .inl) hnil)
    rw [← HPR.out] at HWR
    have HB5 := Lib.hid hb05
    have HS5 := Lib.hid hs5
    clear hb5 hb05 hs5 hd5 HS4 HB4 HPR
    go_wp2_with fail
    refine HWR.out.mono ?_
    rintro e6 w6 ⟨rfl, k1, k2, k3⟩
    have HRB := Lib.hid (show Brow w6 rb 37 zs32 from (k3 rb (.inr (.inl rfl))).trans HS5.out.rr)
    have HX6 := Lib.hid (show Brow w6 X6 37 ds from (k3 X6 (.inr (.inr rfl))).trans HS5.out.row)
    have HFIN := Lib.hid (show ∀ (dz : List Nat) (row : Array Value), ((r.2 = 0 ∧ dz = ds) ∨ (r.2 ≠ 0 ∧ dz = zs32)) → PutR X B d sb (N + 24) w ds r (.returned (.tuple #[.agg (cellsOf dz).toArray, .int .i64 r.2])) (w6.setRow rb row) from fun dz row hz => by
      have q : Below rb w6 (w6.setRow rb row) := (Below.refl _ _).setRow (Nat.le_refl _) _
      have hbk : ∀ j, j ≠ rb → (w6.setRow rb row).heap[j]? = w6.heap[j]? := fun j hj => setRow_otherB w6 rb row j hj
      have hwb := HX6E.out.2
      refine ⟨dz, hz, rfl, ⟨(k1.more (by rw [setRow_sizeB]; exact Nat.le_refl _) (fun j hj hn => hbk j fun e => hn (.inr (.inl e))) (fun j hj => .inl (.inl hj)) fun j hj => by rw [setRow_sizeB]; exact k1.lt j (.inl hj)), HH.out.sx, ?_⟩, (HB5.out.mono hBw).trans (k2.trans (q.mono (by omega))), fun j hj => ?_⟩
      · have hsl := HH.out.dx.lt sb HH.out.sx
        exact (World.cell?_of_block (hbk sb (by omega))).trans ((World.cell?_of_block (k3 sb (.inl HH.out.sx))).trans HS5.out.cs)
      · have hjl := HH.out.dx.lt j hj
        rw [hbk j (by omega), k3 j (.inl hj)]
        exact HB5.out.block j hjl)
    clear k1 k2 k3 HWR HS5 HB5 HF HH HR HNO
    by_cases h0 : r.2 = 0
    · rw [h0]
      have HR0 := Lib.hid h0
      clear h0
      go_wp2_with (first | (refine wpList_load_row (by rfl) 37 _ (by rfl) X6 (by rfl) _ (cellsOf ds).toArray (0, 0) _ HX6.out Tryd.underlying37 (by rfl) HI32D.out ?_) | (refine wpList_store_row (by rfl) 37 _ _ (by rfl) rb (cellsOf ds).toArray (by rfl) (by rfl) 37 (cellsOf zs32).toArray HRB.out HI32D.out HSZD.out (cellsOf_all _) ?_))
      refine bodyPost_ret (results_row_tmpB (by rfl) _ _ rb _ (cellsOf ds).toArray (0, 0) _ (by rfl) (setRow_heap _ _ _ _ _ _ HRB.out) Tryd.underlying37 (by rfl) HI32D.out) ?_ ?_
      · rfl
      · exact (HR0.out ▸ HFIN.out ds _ (.inl ⟨HR0.out, rfl⟩))
    · obtain ⟨y, hy⟩ : ∃ y, r.2 = y := ⟨_, rfl⟩
      have HRY := Lib.hid hy
      have HNZ := Lib.hid h0
      rw [hy] at h0 ⊢
      have hy0 : (y != 0) = true := by simp [h0]
      clear hy h0
      go_wp2_with (first | (refine wpList_store_row (by rfl) 37 _ _ (by rfl) rb (cellsOf zs32).toArray (by rfl) (by rfl) 37 (cellsOf zs32).toArray HRB.out HI32.out rfl (cellsOf_all _) ?_))
      refine bodyPost_ret (results_row_tmpB (by rfl) _ _ rb _ (cellsOf zs32).toArray (0, 0) _ (by rfl) (setRow_heap _ _ _ _ _ _ HRB.out) Tryd.underlying37 (by rfl) HI32.out) ?_ ?_
      · rfl
      · exact (HRY.out ▸ HFIN.out zs32 _ (.inr ⟨HNZ.out, rfl⟩))
  · have hx := HNE.out
    have HPR := Lib.hid (show r = (A, er) from by rw [HPUT.out, hx]; exact if_neg h6)
    clear hx HPUT HNE
    have hr6 : (er == 6) = false := by simp [h6]
    have HRB := Lib.hid HS4.out.rr
    have HX6 := Lib.hid HS4.out.row
    have HFIN := Lib.hid (show ∀ (dz : List Nat) (row : Array Value), ((er = 0 ∧ dz = ds) ∨ (er ≠ 0 ∧ dz = zs32)) → PutR X B d sb (N + 24) w ds r (.returned (.tuple #[.agg (cellsOf dz).toArray, .int .i64 er])) (w4.setRow rb row) from fun dz row hz => by
      have hwb := HX6E.out.2
      have q : Below w.heap.size w4 (w4.setRow rb row) := (Below.refl _ _).setRow hwb _
      have hq := HB4.out.trans q
      rw [HPR.out]
      have hbs := HH.out.below hq
      exact ⟨dz, hz, rfl, ⟨hbs.dx.mono (by omega), hbs.sx, hbs.st⟩, hq.mono hBw, fun j hj => hq.block j (HH.out.dx.lt j hj)⟩)
    clear HS4 HB4 HF HH HR HNO HPR
    by_cases h0 : er = 0
    · subst h0
      go_wp2_with (first | (refine wpList_load_row (by rfl) 37 _ (by rfl) X6 (by rfl) _ (cellsOf ds).toArray (0, 0) _ HX6.out Tryd.underlying37 (by rfl) HI32D.out ?_) | (refine wpList_store_row (by rfl) 37 _ _ (by rfl) rb (cellsOf ds).toArray (by rfl) (by rfl) 37 (cellsOf zs32).toArray HRB.out HI32D.out HSZD.out (cellsOf_all _) ?_))
      refine bodyPost_ret (results_row_tmpB (by rfl) _ _ rb _ (cellsOf ds).toArray (0, 0) _ (by rfl) (setRow_heap _ _ _ _ _ _ HRB.out) Tryd.underlying37 (by rfl) HI32D.out) ?_ ?_
      · rfl
      · exact HFIN.out ds _ (.inl (by simp))
    · have hy0 : (er != 0) = true := by simp [h0]
      have HNZ := Lib.hid h0
      clear h0
      go_wp2_with (first | (refine wpList_store_row (by rfl) 37 _ _ (by rfl) rb (cellsOf zs32).toArray (by rfl) (by rfl) 37 (cellsOf zs32).toArray HRB.out HI32.out rfl (cellsOf_all _) ?_))
      refine bodyPost_ret (results_row_tmpB (by rfl) _ _ rb _ (cellsOf zs32).toArray (0, 0) _ (by rfl) (setRow_heap _ _ _ _ _ _ HRB.out) Tryd.underlying37 (by rfl) HI32.out) ?_ ?_
      · rfl
      · exact HFIN.out zs32 _ (.inr ⟨HNZ.out, rfl⟩)
end Go.Proofs.YtmomdfmilelilaaDoor
