/-
  A store's reads: the name of a sum's file, Size, Read, the check of a file, Whole.
-/
import Derived.Test.YtmomdfmilelilaaDoorBid
import Derived.Test.YtmomdfmilelilaaDoorPkc
import Derived.BigQuiet
namespace Go.Proofs.YtmomdfmilelilaaDoor
open Go.RowKit
set_option linter.unusedVariables false
section
variable {P : Program} {ops : Array Oper} {Q : Exit → Act → World → Prop} {md : Region.Mode} {S : World → Prop}
theorem anyH_neqB (i : Nat) {d : Nat} {t t' : TypeId} {x y : Operand} {gd : Option (Nat × Bool)} (xs ys : Array Value) (b : Bool) {fuel : Nat} {listed : Array Bool} {a : Act} {w : World}
    (hi : (ops[i]?.map fun o => (o.dst, o.op, o.guard)) = some (some d, Op.binOp .neq t x y t', gd)) (hw : ∀ o : Oper, o.guard = gd → Region.wanted o (yielded ops a.tmps) = true) (hs : Region.noSelect ops = true) (hf : Region.free md ops listed i = true) (hr : (Region.ready md ops listed).contains i = true)
    (hQ : ∀ c a w, Q (.panic c) (a.put (some d) (.bool !b)) w → Q (.panic c) a w) (hx : a.eval x = .agg xs) (hy : a.eval y = .agg ys) (hm : P.eqGuardType P.depth t = false)
    (hrun : ∀ W, (Op.equalIn 10000 t (.agg xs) (.agg ys)).run P W = .ok b W) (hS : S w)
    (h : wpAnyH P md ops Q S fuel (listed.setIfInBounds i true) (a.put (some d) (.bool !b)) w) : wpAnyH P md ops Q S (fuel + 1) listed a w :=
  anyH_pureG i (.bool !b) hi hw hs hf hr hQ (fun o ho W hW => by
    unfold execOp
    simp only [ho, hx, hy, Sem.run_bind, run_eqGuard_agg W .neq t x y xs ys hm, run_neq_struct, hrun W, Result.andThen_ok, Sem.run_pure]) hS h
end
def fileB (ds : List Nat) : ByteArray := ⟨#[98, 47]⟩ ++ str (hex ds)
theorem fileB_size (ds : List Nat) (hd : D32 ds) : (fileB ds).size = 66 := by
  unfold fileB
  rw [ByteArray.size_append]
  have : (str (hex ds)).size = 64 := by
    show ((hex ds).map UInt8.ofNat).toArray.size = 64
    rw [List.size_toArray, List.length_map, hex_len, hd.1]
  rw [this]
  rfl
theorem fileB_small (ds : List Nat) (hd : D32 ds) : (fileB ds).size ≤ maxLen := by rw [fileB_size ds hd]; unfold maxLen; omega
set_option maxRecDepth 100000 in
theorem file_c (ds : List Nat) (w : World) (hd : D32 ds) : Calls Tryd.prog 25 #[.agg (cellsOf ds).toArray] w fun e w' => e = .returned (.string (fileB ds)) ∧ Below w.heap.size w w' := by
  have HDA := fun W => run_digAll W w.heap.size 0
  have hl := hd.1
  have hb := hd.2
  go_enter Tryd.func25, Tryd.ntmps25
  go_wp2_with fail
  refine gen_calls (F := fun W => Brow W w.heap.size 37 ds ∧ Below w.heap.size w W) ⟨heap_new _ _, (Below.refl _ _).alloc (Nat.le_refl _) _⟩ ?_
  rintro w0 ⟨hd0, hb0⟩
  have hrd := hd0.rd hb
  rw [hl] at hrd
  refine (hex_c (some ⟨w.heap.size, 0, none⟩) 32 32 ds w0 hrd (by simp) (by omega)).mono ?_
  rintro e1 w1 ⟨rfl, hb1⟩
  have HB := Lib.hid (hb0.trans (hb1.mono hb0.size))
  clear HDA hd0 hb0 hrd hb1
  have hs : ¬ 9223372036854775807 < 2 + (str (hex ds)).size := by
    have : (str (hex ds)).size = 64 := by
      show ((hex ds).map UInt8.ofNat).toArray.size = 64
      rw [List.size_toArray, List.length_map, hex_len, hl]
    omega
  go_wp2
  go_ret
  exact ⟨rfl, HB.out⟩
/-- a store on a disk -/
structure Bs (X : Nat → Prop) (B d sb N : Nat) (A : Ad) (w : World) : Prop where
  dx : Dx X B d N A w
  sx : X sb
  st : w.cell? ⟨sb, 0, none⟩ = some (.pointer (some ⟨d, 0, none⟩))
theorem Bs.below {X : Nat → Prop} {B d sb N : Nat} {A : Ad} {w w' : World} (h : Bs X B d sb N A w) (hb : Below w.heap.size w w') : Bs X B d sb N A w' := ⟨h.dx.below hb, h.sx, (hb.cell (p := ⟨sb, 0, none⟩) (h.dx.lt sb h.sx)).trans h.st⟩
structure S1 (sb d X0 : Nat) (ds : List Nat) (W : World) : Prop where
  cs : W.cell? ⟨sb, 0, none⟩ = some (.pointer (some ⟨d, 0, none⟩))
  row : Brow W X0 37 ds
  lt : sb < W.heap.size
theorem S1.below {sb d X0 : Nat} {ds : List Nat} {W W' : World} (h : S1 sb d X0 ds W) (hb : Below W.heap.size W W') : S1 sb d X0 ds W' := ⟨(hb.cell (p := ⟨sb, 0, none⟩) h.lt).trans h.cs, h.row.below hb h.row.lt, Nat.lt_of_lt_of_le h.lt hb.size⟩
theorem S1.drew {sb d X0 : Nat} {ds : List Nat} {W : World} (h : S1 sb d X0 ds W) : S1 sb d X0 ds W.drew := h.below (below_drewN' _ W 1)
def szA (A : Ad) (s : ByteArray) : Int × Int := if A.down then (0, 5) else match lookF A.now s with
  | none => (0, 6)
  | some z => ((z.length : Int), 0)
theorem szA_of {A : Ad} {s : ByteArray} {w w' : World} {e : Ending} (h : SzA A s w e w') : e = .returned (.tuple #[.int .i64 (szA A s).1, .int .i64 (szA A s).2]) ∧ w' = w := by
  obtain ⟨h1, h2⟩ := h
  refine ⟨?_, h1⟩
  unfold szA
  cases hd : A.down with
  | true => rw [hd] at h2; simpa using h2
  | false =>
    rw [hd] at h2
    simp only [Bool.false_eq_true, if_false] at h2 ⊢
    cases hl : lookF A.now s with
    | none => rw [hl] at h2; exact h2
    | some z => rw [hl] at h2; exact h2
def BszR (A : Ad) (ds : List Nat) (w : World) (e : Ending) (w' : World) : Prop := e = .returned (.tuple #[.int .i64 (szA A (fileB ds)).1, .int .i64 (szA A (fileB ds)).2]) ∧ Below w.heap.size w w'
/-- what a read tells -/
def RdV (A : Ad) (s : ByteArray) (x n : Int) (B : Nat) (va : Option Addr) (vn vc : Nat) (er : Int) (w' : World) : Prop :=
  (A.down = true ∧ er = 5 ∧ vn = 0) ∨ (A.down = false ∧ lookF A.now s = none ∧ er = 6 ∧ vn = 0) ∨ ∃ z, A.down = false ∧ lookF A.now s = some z ∧ (((x < 0 ∨ n < 0) ∧ er = 1 ∧ vn = 0) ∨ (0 ≤ x ∧ 0 ≤ n ∧ er = 0 ∧ Own w' B (.slice va vn vc) ((z.drop x.toNat).take n.toNat) ∧ vn = ((z.drop x.toNat).take n.toNat).length ∧ ∀ y ∈ (z.drop x.toNat).take n.toNat, y < 256))
def RdW (A : Ad) (s : ByteArray) (x n : Int) (va : Option Addr) (vn vc : Nat) (er : Int) (B : Nat) (w' : World) : Prop := RdV A s x n B va vn vc er w'
theorem RdW.weak {A : Ad} {s : ByteArray} {x n : Int} {B B' : Nat} {va : Option Addr} {vn vc : Nat} {er : Int} {w' : World} (h : RdW A s x n va vn vc er B w') (hB : B' ≤ B) : RdW A s x n va vn vc er B' w' := by
  rcases h with h | h | ⟨z, h1, h2, h3⟩
  · exact .inl h
  · exact .inr (.inl h)
  · refine .inr (.inr ⟨z, h1, h2, h3.imp id fun ⟨k1, k2, k3, k4, k5, k6⟩ => ⟨k1, k2, k3, ⟨k4.1, ?_⟩, k5, k6⟩⟩)
    rcases k4.2 with hn | ⟨g, cap, cur, e1, e2, rr⟩
    · exact .inl hn
    · exact .inr ⟨g, cap, cur, e1, Nat.le_trans hB e2, rr⟩
def BrdR (A : Ad) (s : ByteArray) (x n : Int) (w : World) (e : Ending) (w' : World) : Prop := ∃ va vn vc er, e = .returned (.tuple #[.slice va vn vc, .int .i64 er]) ∧ Below w.heap.size w w' ∧ RdW A s x n va vn vc er w.heap.size w'
theorem brd_of {A : Ad} {s : ByteArray} {x n : Int} {w w' : World} {e : Ending} (h : RdA A s x n w e w') : BrdR A s x n w e w' := by
  unfold RdA at h
  cases hd : A.down with
  | true =>
    rw [hd] at h
    simp only [if_true] at h
    obtain ⟨h1, rfl⟩ := h
    exact ⟨none, 0, 0, 5, h1, Below.refl _ _, .inl ⟨hd, rfl, rfl⟩⟩
  | false =>
    rw [hd] at h
    simp only [Bool.false_eq_true, if_false] at h
    cases hl : lookF A.now s with
    | none =>
      rw [hl] at h
      obtain ⟨h1, rfl⟩ := h
      exact ⟨none, 0, 0, 6, h1, Below.refl _ _, .inr (.inl ⟨hd, hl, rfl, rfl⟩)⟩
    | some z =>
      rw [hl] at h
      simp only at h
      by_cases hx : x < 0 ∨ n < 0
      · rw [if_pos hx] at h
        obtain ⟨h1, rfl⟩ := h
        exact ⟨none, 0, 0, 1, h1, Below.refl _ _, .inr (.inr ⟨z, hd, hl, .inl ⟨hx, rfl, rfl⟩⟩)⟩
      · rw [if_neg hx] at h
        obtain ⟨va, vn, vc, h1, h2, h3, h4, h5⟩ := h
        exact ⟨va, vn, vc, 0, h1, h5, .inr (.inr ⟨z, hd, hl, .inr ⟨by omega, by omega, rfl, h2, h3, h4⟩⟩)⟩
theorem RA.flen {N : Nat} {S : Dsk} {A : Ad} (r : RA N S A) {s : ByteArray} {z : List Nat} (h : lookF A.now s = some z) : z.length ≤ 67108864 := by
  have h1 := used_without (n := s) r.chn.ab.srt
  rw [h] at h1
  simp only [Option.getD_some] at h1
  have := r.uR
  omega
/-- whether a file's bytes have a sum -/
def ckA (A : Ad) (s : ByteArray) (ds : List Nat) : Int := if A.down then 5 else match lookF A.now s with
  | none => 6
  | some z => if Sha.sum z = ds then 0 else 20
set_option maxRecDepth 100000 in
set_option maxHeartbeats 8000000 in
theorem bsize_c {X : Nat → Prop} {B d N sb : Nat} {A : Ad} {w : World} (h : Bs X B d sb N A w) (ds : List Nat) (hd : D32 ds) :
    Calls Tryd.prog 20 #[.pointer (some ⟨sb, 0, none⟩), .agg (cellsOf ds).toArray] w (BszR A ds w) := by
  obtain ⟨X0, hX0⟩ : ∃ X0, X0 = w.heap.size := ⟨_, rfl⟩
  obtain ⟨w1, hw1⟩ : ∃ w1, w1 = w.alloc (.cells (cellsOf ds).toArray 37) := ⟨_, rfl⟩
  have q1 : Below w.heap.size w w1 := by rw [hw1]; exact (Below.refl _ _).alloc (Nat.le_refl _) _
  have hbr : Brow w1 X0 37 ds := by rw [hw1, hX0]; exact heap_new _ _
  have hsb := h.dx.lt sb h.sx
  have hcs := (q1.cell (p := ⟨sb, 0, none⟩) hsb).trans h.st
  have HLD := Lib.hid (show ∀ W, S1 sb d X0 ds W → (Instr.loadAt 37 (.pointer (some ⟨X0, 0, none⟩))).run Tryd.prog W = .ok (.agg (cellsOf ds).toArray) W from fun W hW => run_loadAt_mid W X0 0 37 (cellsOf ds) _ hW.row.range Tryd.underlying37 rfl (by rw [cellsOf_length, hd.1]; exact info_dig))
  have HL2 := Lib.hid (fun W (hW : S1 sb d X0 ds W) => run_cell_disk W ⟨sb, 0, none⟩ _ hW.cs)
  have HSS := Lib.hid (show S1 sb d X0 ds w1 from ⟨hcs, hbr, Nat.lt_of_lt_of_le hsb q1.size⟩)
  have HH := Lib.hid h
  have HQ := Lib.hid q1
  have HF := Lib.hid (fun W => file_c ds W hd)
  have hfs := fileB_small ds hd
  obtain ⟨n, er, hne⟩ : ∃ n er, szA A (fileB ds) = (n, er) := ⟨_, _, rfl⟩
  have HSZ := Lib.hid (show ∀ W, Below (World.drew w1).heap.size (World.drew w1) W → Calls Tryd.prog 24 #[.pointer (some ⟨d, 0, none⟩), .string (fileB ds)] W fun e w' => e = .returned (.tuple #[.int .i64 n, .int .i64 er]) ∧ w' = W from fun W hW => by
    have hdx := (h.dx.below q1).below (w' := W) ((below_drewN' _ w1 1).trans hW)
    obtain ⟨S, k1, k2, _⟩ := hdx.ex
    refine (asize k1 k2 (fileB ds) hfs).mono ?_
    intro e w' hz
    have := szA_of hz
    rw [hne] at this
    exact this)
  have HNE := Lib.hid hne
  clear h hd hcs hbr q1 hsb
  go_enter Tryd.func20, Tryd.ntmps20
  go_upto_region 3 with fail
  rw [← hX0]
  rw [← hw1]
  clear hX0 hw1
  have HS := Lib.hid (show S1 sb d X0 ds (World.drew w1) from HSS.out.drew)
  refine anyH_begin (S := S1 sb d X0 ds) (by kernel_rfl) ?_
  refine anyH_pureG 0 (d := 8) (op := .move (.tmp 0)) (gd := none) (.pointer (some ⟨sb, 0, none⟩)) (by rfl) (fun o ho => wanted_plain ho _) (by kernel_rfl) (by kernel_rfl) (by kernel_rfl) (fun _ _ _ h => h) (fun o ho W hW => by unfold execOp; simp only [ho]; go_simp) HS.out ?_
  simp only [Act.put, List.setIfInBounds_toArray, List.set_cons_zero, List.set_cons_succ]
  refine anyH_pureG 1 (d := 9) (op := .nilCheck (.tmp 8)) (gd := none) (.pointer (some ⟨sb, 0, none⟩)) (by rfl) (fun o ho => wanted_plain ho _) (by kernel_rfl) (by kernel_rfl) (by kernel_rfl) (fun _ _ _ h => h) (fun o ho W hW => by unfold execOp; simp only [ho]; go_simp) HS.out ?_
  simp only [Act.put, List.setIfInBounds_toArray, List.set_cons_zero, List.set_cons_succ]
  refine anyH_pureG 2 (d := 10) (op := .fieldAddr 55 (.tmp 9) 0) (gd := none) (.pointer (some ⟨sb, 0, none⟩)) (by rfl) (fun o ho => wanted_plain ho _) (by kernel_rfl) (by kernel_rfl) (by kernel_rfl) (fun _ _ _ h => h) (fun o ho W hW => by unfold execOp; simp only [ho]; go_simp) HS.out ?_
  simp only [Act.put, List.setIfInBounds_toArray, List.set_cons_zero, List.set_cons_succ]
  refine anyH_loadG 3 (d := 11) (ty := 24) (x := (.tmp 10)) (gd := none) (p := .pointer (some ⟨sb, 0, none⟩)) (.pointer (some ⟨d, 0, none⟩)) (by rfl) (fun o ho => wanted_plain ho _) (by kernel_rfl) (by kernel_rfl) (by kernel_rfl) (fun _ _ _ h => h) (by rfl) HL2.out HS.out ?_
  simp only [Act.put, List.setIfInBounds_toArray, List.set_cons_zero, List.set_cons_succ]
  refine anyH_loadG 4 (d := 12) (ty := 37) (x := (.tmp 3)) (gd := none) (p := .pointer (some ⟨X0, 0, none⟩)) (.agg (cellsOf ds).toArray) (by rfl) (fun o ho => wanted_plain ho _) (by kernel_rfl) (by kernel_rfl) (by kernel_rfl) (fun _ _ _ h => h) (by rfl) HLD.out HS.out ?_
  simp only [Act.put, List.setIfInBounds_toArray, List.set_cons_zero, List.set_cons_succ]
  refine anyH_callG 5 (d := some 13) (f := 25) (xs := #[(.tmp 12)]) (ts := #[37]) (gd := none) (vs := #[.agg (cellsOf ds).toArray]) (by kernel_rfl) (by rfl) (fun o ho => wanted_plain ho _) (by go_simp) (by go_simp) (HF.out _) ?_
  rintro e2 w2 ⟨rfl, hb2⟩
  have HS2 := Lib.hid (HS.out.below hb2)
  have HB2 := Lib.hid hb2
  clear hb2
  refine ⟨_, rfl, HS2.out, fun hS => ?_⟩
  clear hS
  simp only [Act.put, List.setIfInBounds_toArray, List.set_cons_zero, List.set_cons_succ]
  refine anyH_callG 6 (d := some 14) (f := 24) (xs := #[(.tmp 11), (.tmp 13)]) (ts := #[24, 9]) (gd := none) (vs := #[.pointer (some ⟨d, 0, none⟩), .string (fileB ds)]) (by kernel_rfl) (by rfl) (fun o ho => wanted_plain ho _) (by go_simp) (by go_simp) (HSZ.out _ HB2.out) ?_
  rintro e3 w3 ⟨rfl, hw3⟩
  have HS3 := Lib.hid (show S1 sb d X0 ds w3 from by rw [hw3]; exact HS2.out)
  have HW3 := Lib.hid hw3
  clear hw3
  refine ⟨_, rfl, HS3.out, fun hS => ?_⟩
  clear hS
  simp only [Act.put, List.setIfInBounds_toArray, List.set_cons_zero, List.set_cons_succ]
  refine anyH_pureG 7 (d := 15) (op := .extract (.tmp 14) 0) (gd := none) (.int .i64 n) (by rfl) (fun o ho => wanted_plain ho _) (by kernel_rfl) (by kernel_rfl) (by kernel_rfl) (fun _ _ _ h => h) (fun o ho W hW => by unfold execOp; simp only [ho]; go_simp) HS3.out ?_
  simp only [Act.put, List.setIfInBounds_toArray, List.set_cons_zero, List.set_cons_succ]
  refine anyH_pureG 8 (d := 16) (op := .extract (.tmp 14) 1) (gd := none) (.int .i64 er) (by rfl) (fun o ho => wanted_plain ho _) (by kernel_rfl) (by kernel_rfl) (by kernel_rfl) (fun _ _ _ h => h) (fun o ho W hW => by unfold execOp; simp only [ho]; go_simp) HS3.out ?_
  simp only [Act.put, List.setIfInBounds_toArray, List.set_cons_zero, List.set_cons_succ]
  refine anyH_pureG 9 (d := 4) (op := .assign (.tmp 15)) (gd := none) (.int .i64 n) (by rfl) (fun o ho => wanted_plain ho _) (by kernel_rfl) (by kernel_rfl) (by kernel_rfl) (fun _ _ _ h => h) (fun o ho W hW => by unfold execOp; simp only [ho]; go_simp) HS3.out ?_
  simp only [Act.put, List.setIfInBounds_toArray, List.set_cons_zero, List.set_cons_succ]
  refine anyH_pureG 10 (d := 5) (op := .assign (.tmp 16)) (gd := none) (.int .i64 er) (by rfl) (fun o ho => wanted_plain ho _) (by kernel_rfl) (by kernel_rfl) (by kernel_rfl) (fun _ _ _ h => h) (fun o ho W hW => by unfold execOp; simp only [ho]; go_simp) HS3.out ?_
  simp only [Act.put, List.setIfInBounds_toArray, List.set_cons_zero, List.set_cons_succ]
  refine wpAnyH_done (by kernel_rfl) ?_ _
  have HE := Lib.hid (show Below w.heap.size w w3 from by rw [HW3.out]; exact HQ.out.trans ((below_drewN' _ w1 1).trans (HB2.out.mono HQ.out.size)))
  clear HS HS2 HS3 HLD HL2 HF HSZ HSS
  go_wp2_with fail
  go_ret2
  exact ⟨by rw [HNE.out]; rfl, HE.out⟩
end Go.Proofs.YtmomdfmilelilaaDoor
