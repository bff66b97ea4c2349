/-
  The graph's awake, walked.
-/
import Derived.Test.YtpppffgchgcghaaGsb
namespace Go.Proofs.Ytpppffgchgcghaa
open Go.RowKit Go.Maps
set_option linter.unusedVariables false
def A3 (w : World) (x y z : List Nat) (W : World) : Prop := Brow W w.heap.size 42 x ∧ Brow W (w.heap.size + 1) 42 y ∧ Brow W (w.heap.size + 1 + 1) 42 z ∧ Below w.heap.size w W
theorem A3.new (w : World) (x y z : List Nat) : A3 w x y z (((w.alloc (.cells (cellsOf x).toArray 42)).alloc (.cells (cellsOf y).toArray 42)).alloc (.cells (cellsOf z).toArray 42)) :=
  ⟨(heap_new3 _ _ _ _).1, (heap_new3 _ _ _ _).2.1, (heap_new3 _ _ _ _).2.2, (((Below.refl _ _).alloc (Nat.le_refl _) _).alloc (by simp) _).alloc (by simp; omega) _⟩
theorem A3.set1 {w W : World} {x y z : List Nat} (h : A3 w x y z W) (q : List Nat) : A3 w q y z (W.setRow w.heap.size (cellsOf q).toArray) := by
  have o : Only w.heap.size W (W.setRow w.heap.size (cellsOf q).toArray) := (Only.refl _ _).setRow _
  exact ⟨h.1.setRow, h.2.1.only o (by omega), h.2.2.1.only o (by omega), h.2.2.2.trans (o.below (Nat.le_refl _) h.2.2.2.size)⟩
theorem A3.set2 {w W : World} {x y z : List Nat} (h : A3 w x y z W) (q : List Nat) : A3 w x q z (W.setRow (w.heap.size + 1) (cellsOf q).toArray) := by
  have o : Only (w.heap.size + 1) W (W.setRow (w.heap.size + 1) (cellsOf q).toArray) := (Only.refl _ _).setRow _
  exact ⟨h.1.only o (by omega), h.2.1.setRow, h.2.2.1.only o (by omega), h.2.2.2.trans (o.below (by omega) h.2.2.2.size)⟩
theorem A3.set3 {w W : World} {x y z : List Nat} (h : A3 w x y z W) (q : List Nat) : A3 w x y q (W.setRow (w.heap.size + 1 + 1) (cellsOf q).toArray) := by
  have o : Only (w.heap.size + 1 + 1) W (W.setRow (w.heap.size + 1 + 1) (cellsOf q).toArray) := (Only.refl _ _).setRow _
  exact ⟨h.1.only o (by omega), h.2.1.only o (by omega), h.2.2.1.setRow, h.2.2.2.trans (o.below (by omega) h.2.2.2.size)⟩
/-- a literal of sums, also under a guard -/
theorem wpList_layG {w : World} {ops : Array Oper} {rest : List Oper} {o : Oper} {a : Act} {Q : Exit → Act → World → Prop} (n : Nat) (parts : Array (Nat × Operand)) (ho : o.op = .buildSlice 38 n parts) (hw : Region.wanted o (yielded ops a.tmps) = true) (cells : Array Value)
    (hf : Try.prog.builtSlice 42 n (parts.map fun (i, x) => (i, a.eval x)).toList = some cells)
    (h : wpList Try.prog ops Q rest (a.put o.dst (.slice (some ⟨w.heap.size, 0, none⟩) n n)) (w.alloc (.cells cells 42))) : wpList Try.prog ops Q (o :: rest) a w := by
  rw [wpList, if_pos hw]
  refine .inl ?_
  unfold Program.builtSlice at hf
  cases hie : Try.prog.info? 42 with
  | none => simp [hie] at hf
  | some ie =>
    simp only [hie] at hf
    cases hz : ie.zero with
    | none => simp [hz] at hf
    | some z =>
      simp only [hz] at hf
      by_cases hc : n * ie.size > 2 ^ 24 ∨ n * ie.size = 0
      · simp [hc] at hf
      · rw [if_neg hc] at hf
        exact wp_buildSlice 38 42 n parts ho cells ie z dtA.und hie hz (fun h' => hc (Or.inl h')) (fun h' => hc (Or.inr h')) hf h
theorem lit2 : Try.prog.builtSlice 42 2 [(0, .agg (cellsOf dB).toArray), (1, .agg (cellsOf dC).toArray)] = some (cellsOf [dB, dC].flatten).toArray := by kernel_rfl
theorem lit1 (d : List Nat) (hd : D32 d) : Try.prog.builtSlice 42 1 [(0, .agg (cellsOf d).toArray)] = some (cellsOf [d].flatten).toArray := by
  have := dtA.one (cellsOf d).toArray (by rw [List.size_toArray, cellsOf_length, hd.1])
  rw [this]
  simp
/-- a node is put, with edges that the statement lays -/
theorem AG.putL {B g x N : Nat} {f : List Nat → Option Ds} {W : World} (h : AG B g x N f W) (hN : N ≤ 1000000) (s : List Nat) (hs : D32 s) (ds : Ds) (hd : ∀ d ∈ ds, D32 d) (hn : ds.length ≤ 1000) :
    Calls Try.prog 23 #[.pointer (some ⟨g, 0, none⟩), .agg (cellsOf s).toArray, .slice (some ⟨W.heap.size, 0, none⟩) ds.length ds.length] (W.alloc (.cells (cellsOf ds.flatten).toArray 42)) fun e w' => e = .returned (.int .i64 0) ∧ AG B g x (N + 1) (fun t => if t = s then some ds else f t) w' ∧ Below B W w' := by
  have hb : Below W.heap.size W (W.alloc (.cells (cellsOf ds.flatten).toArray 42)) := (Below.refl _ _).alloc (Nat.le_refl _) _
  have h0 := h.below hb
  obtain ⟨V, h1, h2, h3, h4⟩ := h.gr
  refine (put_c (h1.below hb) h0.hB (by omega) hs _ _ _ ds (dr_new W _ ds hd) (Nat.le_refl _) (by omega) (fun b o e hv => ?_)).mono ?_
  · have := (h1.vb b hv).2
    have e2 : W.heap.size = b := by
      have := congrArg Addr.block (Option.some.inj e)
      exact this
    omega
  rintro e w' ⟨rfl, hg, hf⟩
  have hxl := (Array.getElem?_eq_some_iff.1 h0.a).1
  have hxl2 := (Array.getElem?_eq_some_iff.1 h0.b).1
  have hxl3 := (Array.getElem?_eq_some_iff.1 h0.c).1
  refine ⟨rfl, ⟨(hf.block x hxl h2).trans h0.a, (hf.block _ hxl2 h3).trans h0.b, (hf.block _ hxl3 h4).trans h0.c, Nat.le_trans h0.hB hf.size, _, hg, fun e => h2 (ext_old _ hxl e), fun e => h3 (ext_old _ hxl2 e), fun e => h4 (ext_old _ hxl3 e)⟩, (hb.mono h.hB).trans (hf.below h0.hB fun k hk => (h1.vb k hk).1)⟩
theorem AG.putN {B g x N : Nat} {f : List Nat → Option Ds} {W : World} (h : AG B g x N f W) (hN : N ≤ 1000000) (s : List Nat) (hs : D32 s) :
    Calls Try.prog 23 #[.pointer (some ⟨g, 0, none⟩), .agg (cellsOf s).toArray, .slice none 0 0] W fun e w' => e = .returned (.int .i64 0) ∧ AG B g x (N + 1) (fun t => if t = s then some [] else f t) w' ∧ Below B W w' := by
  obtain ⟨V, h1, h2, h3, h4⟩ := h.gr
  refine (put_c h1 h.hB (by omega) hs _ _ _ [] (DR.nil W) (Nat.le_refl _) (by omega) (fun b o e => by cases e)).mono ?_
  rintro e w' ⟨rfl, hg, hf⟩
  have hxl := (Array.getElem?_eq_some_iff.1 h.a).1
  have hxl2 := (Array.getElem?_eq_some_iff.1 h.b).1
  have hxl3 := (Array.getElem?_eq_some_iff.1 h.c).1
  exact ⟨rfl, ⟨(hf.block x hxl h2).trans h.a, (hf.block _ hxl2 h3).trans h.b, (hf.block _ hxl3 h4).trans h.c, Nat.le_trans h.hB hf.size, _, hg, fun e => h2 (ext_old _ hxl e), fun e => h3 (ext_old _ hxl2 e), fun e => h4 (ext_old _ hxl3 e)⟩, hf.below h.hB fun k hk => (h1.vb k hk).1⟩
theorem QR.base {w : World} {B B' : Nat} {v : Value} {ds : Ds} (h : QR w B v ds) (hB : B' ≤ B) : QR w B' v ds := ⟨h.1, h.2.imp id fun ⟨g, o, cap, cur, e, hb, r⟩ => ⟨g, o, cap, cur, e, Nat.le_trans hB hb, r⟩⟩
theorem MR.base {B B' N k g : Nat} {O : Nat → Prop} {w : World} {gray : Ds} {b : List Nat → Bool} (h : MR B N O w k g gray b) (hB : B' ≤ B) : MR B' N O w k g gray b := by
  refine ⟨h.own, fun j hj => ⟨Nat.le_trans hB (h.ob j hj).1, (h.ob j hj).2⟩, ?_⟩
  obtain ⟨gv, bm, h1, h2, h3, h4⟩ := h.ex
  exact ⟨gv, bm, h1, h2.base hB, h3, h4⟩
theorem reachR_len {f : List Nat → Option Ds} {ds L : Ds} {J : Nat} {bb : List Nat → Bool} {w w' : World} {e : Ending} (h : ReachR f ds w e w') (hJ : itP f J (ds, fun _ => false) = ([], bb)) (hL : L.Nodup) (hd : ∀ s ∈ L, D32 s) (hb : ∀ s, bb s = true ↔ s ∈ L) : ∃ av cv, e = .returned (.slice av L.length cv) ∧ Below w.heap.size w w' := by
  obtain ⟨j, h1, av, nv, cv, dv, rfl, h2, h3, h4, h5, h6⟩ := h
  have e1 : itP f j (ds, fun _ => false) = ([], bb) := by
    rcases Nat.le_total j J with hle | hle
    · rw [← itP_done h1 hle]; exact hJ
    · rw [itP_done (by rw [hJ]) hle]; exact hJ
  rw [e1] at h5
  have hl := keys_len h3 h4 h5 hL hd hb
  obtain ⟨a', c', ev, -⟩ := h2.dr h4
  have e2 := (Value.slice.inj ev).2.1
  exact ⟨av, cv, by rw [e2, hl], h6⟩
theorem refsR_len {f : List Nat → Option Ds} {d : List Nat} {L : Ds} {w w' : World} {e : Ending} (h : RefsR f d w e w') (hL : L.Nodup) (hd : ∀ s ∈ L, D32 s) (hb : ∀ s, ((f s).isSome = true ∧ leads f d s) ↔ s ∈ L) : e = .returned (.int .i64 (L.length : Nat)) ∧ Below w.heap.size w w' := by
  obtain ⟨cs, rfl, h1, h2, h3, h4⟩ := h
  have hp : cs.Perm L := (List.perm_ext_iff_of_nodup h1 hL).2 fun s => ⟨fun hs => (hb s).1 ((h3 s (h2 s hs)).1 hs), fun hs => (h3 s (hd s hs)).2 ((hb s).2 hs)⟩
  rw [hp.length_eq]
  exact ⟨rfl, h4⟩
theorem refsB (s : List Nat) : ((f3 s).isSome = true ∧ leads f3 dB s) ↔ s ∈ [dA] := by
  constructor
  · rintro ⟨h1, h2⟩
    have := f3_some h1
    simp only [List.mem_cons, List.not_mem_nil, or_false] at this
    unfold leads at h2
    rcases this with rfl | rfl | rfl
    · simp
    · rw [f3B] at h2; simp at h2
    · rw [f3C] at h2; simp [neAB.symm] at h2
  · intro h
    rw [List.mem_singleton] at h
    subst h
    unfold leads
    rw [f3A]
    simp
/-- the boxes, the graph and a marker -/
structure AMk (B g x k T : Nat) (s : Ms) (W : World) : Prop where
  a : W.heap[x]? = some (.cells (cellsOf dA).toArray 42 (0, 0))
  b : W.heap[x + 1]? = some (.cells (cellsOf dB).toArray 42 (0, 0))
  c : W.heap[x + 1 + 1]? = some (.cells (cellsOf dC).toArray 42 (0, 0))
  hB : B ≤ W.heap.size
  ex : ∃ V O, GR B 3 V W g f3 ∧ MK B T O W k g f3 s ∧ (∀ j, V j → ¬ O j) ∧ ¬ O x ∧ ¬ O (x + 1) ∧ ¬ O (x + 1 + 1)
theorem AMk.below {B g x k T : Nat} {s : Ms} {W W' : World} (h : AMk B g x k T s W) (hb : Below W.heap.size W W') : AMk B g x k T s W' := by
  obtain ⟨V, O, h1, h2, h3⟩ := h.ex
  exact ⟨(hb.block x (Array.getElem?_eq_some_iff.1 h.a).1).trans h.a, (hb.block _ (Array.getElem?_eq_some_iff.1 h.b).1).trans h.b, (hb.block _ (Array.getElem?_eq_some_iff.1 h.c).1).trans h.c, Nat.le_trans h.hB hb.size, V, O, h1.below hb, h2.below hb, h3⟩
theorem AMk.la {B g x k T : Nat} {s : Ms} {W : World} (h : AMk B g x k T s W) : (Instr.loadAt 42 (.pointer (some ⟨x, 0, none⟩))).run Try.prog W = .ok (.agg (cellsOf dA).toArray) W := run_cell_dig W x dA d32_A h.a
theorem AMk.lb {B g x k T : Nat} {s : Ms} {W : World} (h : AMk B g x k T s W) : (Instr.loadAt 42 (.pointer (some ⟨x + 1, 0, none⟩))).run Try.prog W = .ok (.agg (cellsOf dB).toArray) W := run_cell_dig W (x + 1) dB d32_B h.b
theorem AMk.lc {B g x k T : Nat} {s : Ms} {W : World} (h : AMk B g x k T s W) : (Instr.loadAt 42 (.pointer (some ⟨x + 1 + 1, 0, none⟩))).run Try.prog W = .ok (.agg (cellsOf dC).toArray) W := run_cell_dig W (x + 1 + 1) dC d32_C h.c
theorem AMk.step {B g x k T : Nat} {s : Ms} {W : World} (h : AMk B g x k T s W) (hT : T ≤ 1000) (n : Nat) (hn : n ≤ 1000) : Calls Try.prog 29 #[.pointer (some ⟨k, 0, none⟩), .int .i64 (n : Int)] W fun e w' => e = .returned (.bool (decide ((itP f3 n s).1.length = 0))) ∧ AMk B g x k T (itP f3 n s) w' ∧ Below B W w' := by
  obtain ⟨V, O, h1, h2, h3, h4, h5, h6⟩ := h.ex
  have hs := step_c h2 h1 h3 h.hB (by omega) f3_len (n : Int) (by omega)
  rw [Int.toNat_natCast] at hs
  refine hs.mono ?_
  rintro e w' ⟨rfl, hm, hf⟩
  have hxl := (Array.getElem?_eq_some_iff.1 h.a).1
  have hxl2 := (Array.getElem?_eq_some_iff.1 h.b).1
  have hxl3 := (Array.getElem?_eq_some_iff.1 h.c).1
  have hob : ∀ j, O j → B ≤ j := fun j hj => by obtain ⟨N, M, -, q, -⟩ := h2; exact (q.ob j hj).1
  exact ⟨rfl, ⟨(hf.block x hxl h4).trans h.a, (hf.block _ hxl2 h5).trans h.b, (hf.block _ hxl3 h6).trans h.c, Nat.le_trans h.hB hf.size, V, _, h1.fr hf h3, hm, fun j hv ho => h3 j hv (ext_old j (h1.vb j hv).2 ho), fun e => h4 (ext_old _ hxl e), fun e => h5 (ext_old _ hxl2 e), fun e => h6 (ext_old _ hxl3 e)⟩, hf.below h.hB hob⟩
theorem AMk.left {B g x k T : Nat} {s : Ms} {W : World} (h : AMk B g x k T s W) : Calls Try.prog 13 #[.pointer (some ⟨k, 0, none⟩)] W fun e w' => e = .returned (.int .i64 (s.1.length : Nat)) ∧ w' = W := by
  obtain ⟨V, O, h1, ⟨N, M, -, h2, -⟩, -⟩ := h.ex
  exact left_c h2
theorem AMk.reach {B g x k T : Nat} {s : Ms} {W : World} (h : AMk B g x k T s W) (d : List Nat) (hd : D32 d) : Calls Try.prog 27 #[.pointer (some ⟨g, 0, none⟩), .slice (some ⟨W.heap.size, 0, none⟩) 1 1] (W.alloc (.cells (cellsOf [d].flatten).toArray 42)) (ReachR f3 [d] (W.alloc (.cells (cellsOf [d].flatten).toArray 42))) := by
  obtain ⟨V, O, h1, -⟩ := h.ex
  exact reach_c (h1.below ((Below.refl _ _).alloc (Nat.le_refl _) _)) _ 1 1 [d] (dr_new W _ [d] (by simp [hd])) (Nat.le_refl _) (by omega) (f3_bd d) (by omega) f3_len
theorem AMk.refs {B g x k T : Nat} {s : Ms} {W : World} (h : AMk B g x k T s W) : Calls Try.prog 19 #[.pointer (some ⟨g, 0, none⟩), .agg (cellsOf dB).toArray] W fun e w' => e = .returned (.int .i64 1) ∧ Below W.heap.size W w' := by
  obtain ⟨V, O, h1, -⟩ := h.ex
  refine (refs_c h1 (by omega) f3_len d32_B).mono ?_
  intro e w' hr
  exact refsR_len hr (L := [dA]) (by simp) (by simp [d32_A]) refsB
theorem AMk.begin {B g x k : Nat} {W W1 W2 : World} (h : AG B g x 3 f3 W) (hb1 : Below W.heap.size W W1) (hm : MR W1.heap.size 0 (ext (fun _ => False) W1 W2) W2 k g [dA] (fun _ => false)) (hb2 : Below W1.heap.size W1 W2) : AMk B g x k 4 ([dA], fun _ => false) W2 := by
  have hb : Below W.heap.size W W2 := hb1.trans (hb2.mono hb1.size)
  have h5 := h.below hb
  obtain ⟨V, q1, q2⟩ := h.gr
  have hs1 := hb1.size
  have hvo : ∀ j, j < W.heap.size → ¬ ext (fun _ => False) W1 W2 j := fun j hj e => by
    rcases e with e | e
    · exact e
    · omega
  exact ⟨h5.a, h5.b, h5.c, h5.hB, V, _, q1.below hb, ⟨0, 4, by omega, hm.base (Nat.le_trans h.hB hs1), f3_bd dA⟩, fun j hv => hvo j (q1.vb j hv).2, hvo _ (Array.getElem?_eq_some_iff.1 h.a).1, hvo _ (Array.getElem?_eq_some_iff.1 h.b).1, hvo _ (Array.getElem?_eq_some_iff.1 h.c).1⟩
theorem mrB (s : List Nat) : bk (fun _ => false) dB s = true ↔ s ∈ [dB] := by simp [bk]
theorem mrC (s : List Nat) : bk (bk (bk (fun _ => false) dC) dA) dB s = true ↔ s ∈ [dA, dB, dC] := by
  simp only [bk, List.mem_cons, List.not_mem_nil, or_false]
  by_cases h1 : s = dB
  · simp [h1]
  · by_cases h2 : s = dA
    · simp [h2]
    · by_cases h3 : s = dC
      · simp [h3]
      · simp [h1, h2, h3]
set_option maxRecDepth 100000 in
set_option maxHeartbeats 8000000 in
theorem awake18_c (w : World) : Calls Try.prog 10 #[] w fun e w' => e = .returned (.bool true) ∧ Below w.heap.size w w' := by
  have HNW := Lib.hid (gnew_c w)
  have HIA := Lib.hid (infoG d32_A)
  have HIB := Lib.hid (infoG d32_B)
  have HIC := Lib.hid (infoG d32_C)
  have HZA := Lib.hid (zsizeG d32_A)
  have HZB := Lib.hid (zsizeG d32_B)
  have HZC := Lib.hid (zsizeG d32_C)
  go_enter Try.func10, Try.ntmps10
  go_wp2_with fail
  refine HNW.out.mono ?_
  rintro e1 w1 ⟨rfl, hg1, hb1⟩
  obtain ⟨g, hg⟩ : ∃ g, g = w.heap.size := ⟨_, rfl⟩
  rw [← hg]
  have HG1 := Lib.hid hg1
  have HB1 := Lib.hid hb1
  have HGE := Lib.hid hg
  clear hg1 hb1 hg HNW
  go_upto_region 3 with (first | (refine wpList_store_row (by rfl) 42 _ _ (by rfl) w1.heap.size (cellsOf dA).toArray (by rfl) (by rfl) 42 (cellsOf zs32).toArray (by exact (A3.new w1 zs32 zs32 zs32).1) HIA.out HZA.out (cellsOf_all _) ?_; refine gen_world (F := A3 w1 dA zs32 zs32) ((A3.new w1 zs32 zs32 zs32).set1 dA) ?_; intro wz hz; have HW := Lib.hid hz; clear hz) | (refine wpList_store_row (by rfl) 42 _ _ (by rfl) (w1.heap.size + 1) (cellsOf dB).toArray (by rfl) (by rfl) 42 (cellsOf zs32).toArray HW.out.2.1 HIB.out HZB.out (cellsOf_all _) ?_; refine gen_world (F := A3 w1 dA dB zs32) (HW.out.set2 dB) ?_; intro wy hz; have HV := Lib.hid hz; clear hz HW) | (refine wpList_store_row (by rfl) 42 _ _ (by rfl) (w1.heap.size + 1 + 1) (cellsOf dC).toArray (by rfl) (by rfl) 42 (cellsOf zs32).toArray HV.out.2.2.1 HIC.out HZC.out (cellsOf_all _) ?_; refine gen_world (F := A3 w1 dA dB dC) (HV.out.set3 dC) ?_; intro wx hz; have HU := Lib.hid hz; clear hz HV))
  have HAG0 := Lib.hid (show AG w.heap.size g w1.heap.size 0 f0 wx from ⟨HU.out.1, HU.out.2.1, HU.out.2.2.1, Nat.le_trans HB1.out.size HU.out.2.2.2.size, _, by rw [HGE.out]; exact HG1.out.below HU.out.2.2.2, by
    have hv := HG1.out.vb
    exact ⟨fun e => by have := (hv _ e).2; omega, fun e => by have := (hv _ e).2; omega, fun e => by have := (hv _ e).2; omega⟩⟩)
  have HBX := Lib.hid (HB1.out.trans (HU.out.2.2.2.mono HB1.out.size))
  have HXL := Lib.hid (show w1.heap.size + 1 + 1 < wx.heap.size from HU.out.2.2.1.lt)
  clear HU HG1 HB1 HIA HIB HIC HZA HZB HZC
  have HP1 := Lib.hid (HAG0.out.putL (by omega) dA d32_A [dB, dC] (by simp [d32_B, d32_C]) (by simp))
  go_wp2_with (first | (refine wpList_loadg 42 _ (by rfl) (by rfl) (.pointer (some ⟨w1.heap.size, 0, none⟩)) (by rfl) (.agg (cellsOf dA).toArray) HAG0.out.la ?_) | (refine wpList_loadg 42 _ (by rfl) (by rfl) (.pointer (some ⟨w1.heap.size + 1, 0, none⟩)) (by rfl) (.agg (cellsOf dB).toArray) HAG0.out.lb ?_) | (refine wpList_loadg 42 _ (by rfl) (by rfl) (.pointer (some ⟨w1.heap.size + 1 + 1, 0, none⟩)) (by rfl) (.agg (cellsOf dC).toArray) HAG0.out.lc ?_) | (refine wpList_layG 2 _ (by rfl) (by rfl) (cellsOf [dB, dC].flatten).toArray (by exact lit2) ?_) | fail)
  refine HP1.out.mono ?_
  rintro e2 w2 ⟨rfl, ha2, hb2⟩
  have HAG1 := Lib.hid (show AG w.heap.size g w1.heap.size 1 f1 w2 from ha2)
  have HBX2 := Lib.hid (HBX.out.trans hb2)
  clear ha2 hb2 HP1 HAG0 HBX
  have HP2 := Lib.hid (HAG1.out.putN (by omega) dB d32_B)
  go_wp2_with (first | (refine wpList_loadg 42 _ (by rfl) (by rfl) (.pointer (some ⟨w1.heap.size, 0, none⟩)) (by rfl) (.agg (cellsOf dA).toArray) HAG1.out.la ?_) | (refine wpList_loadg 42 _ (by rfl) (by rfl) (.pointer (some ⟨w1.heap.size + 1, 0, none⟩)) (by rfl) (.agg (cellsOf dB).toArray) HAG1.out.lb ?_) | (refine wpList_loadg 42 _ (by rfl) (by rfl) (.pointer (some ⟨w1.heap.size + 1 + 1, 0, none⟩)) (by rfl) (.agg (cellsOf dC).toArray) HAG1.out.lc ?_) | fail)
  refine HP2.out.mono ?_
  rintro e3 w3 ⟨rfl, ha3, hb3⟩
  have HAG2 := Lib.hid (show AG w.heap.size g w1.heap.size 2 f2 w3 from ha3)
  have HBX3 := Lib.hid (HBX2.out.trans hb3)
  clear ha3 hb3 HP2 HAG1 HBX2
  have HP3 := Lib.hid (HAG2.out.putL (by omega) dC d32_C [dA] (by simp [d32_A]) (by simp))
  go_wp2_with (first | (refine wpList_loadg 42 _ (by rfl) (by rfl) (.pointer (some ⟨w1.heap.size, 0, none⟩)) (by rfl) (.agg (cellsOf dA).toArray) HAG2.out.la ?_) | (refine wpList_loadg 42 _ (by rfl) (by rfl) (.pointer (some ⟨w1.heap.size + 1, 0, none⟩)) (by rfl) (.agg (cellsOf dB).toArray) HAG2.out.lb ?_) | (refine wpList_loadg 42 _ (by rfl) (by rfl) (.pointer (some ⟨w1.heap.size + 1 + 1, 0, none⟩)) (by rfl) (.agg (cellsOf dC).toArray) HAG2.out.lc ?_) | (refine wpList_layG 1 _ (by rfl) (by rfl) (cellsOf [dA].flatten).toArray (by exact lit1 dA d32_A) ?_) | fail)
  refine HP3.out.mono ?_
  rintro e4 w4 ⟨rfl, ha4, hb4⟩
  have HAG3 := Lib.hid (show AG w.heap.size g w1.heap.size 3 f3 w4 from ha4)
  have HBX4 := Lib.hid (HBX3.out.trans hb4)
  clear ha4 hb4 HP3 HAG2 HBX3
  have hb4' : Below w4.heap.size w4 (w4.alloc (.cells (cellsOf [dA].flatten).toArray 42)) := (Below.refl _ _).alloc (Nat.le_refl _) _
  have HMK := Lib.hid (mark_c (w := w4.alloc (.cells (cellsOf [dA].flatten).toArray 42)) g _ 1 1 [dA] (dr_new w4 _ [dA] (by simp [d32_A])) (Nat.le_refl _) (by omega))
  go_wp2_with (first | (refine wpList_loadg 42 _ (by rfl) (by rfl) (.pointer (some ⟨w1.heap.size, 0, none⟩)) (by rfl) (.agg (cellsOf dA).toArray) HAG3.out.la ?_) | (refine wpList_loadg 42 _ (by rfl) (by rfl) (.pointer (some ⟨w1.heap.size + 1, 0, none⟩)) (by rfl) (.agg (cellsOf dB).toArray) HAG3.out.lb ?_) | (refine wpList_loadg 42 _ (by rfl) (by rfl) (.pointer (some ⟨w1.heap.size + 1 + 1, 0, none⟩)) (by rfl) (.agg (cellsOf dC).toArray) HAG3.out.lc ?_) | (refine wpList_layG 1 _ (by rfl) (by rfl) (cellsOf [dA].flatten).toArray (by exact lit1 dA d32_A) ?_) | fail)
  refine HMK.out.mono ?_
  rintro e5 w5 ⟨k, rfl, hm5, hb5⟩
  have HS0 := Lib.hid (AMk.begin HAG3.out hb4' hm5 hb5)
  have HBX5 := Lib.hid (HBX4.out.trans ((hb4'.trans (hb5.mono hb4'.size)).mono HAG3.out.hB))
  clear hm5 hb5 hb4' HMK HAG3 HBX4
  have HR1 := Lib.hid (HS0.out.reach dB d32_B)
  go_wp2_with (first | (refine wpList_loadg 42 _ (by rfl) (by rfl) (.pointer (some ⟨w1.heap.size, 0, none⟩)) (by rfl) (.agg (cellsOf dA).toArray) HS0.out.la ?_) | (refine wpList_loadg 42 _ (by rfl) (by rfl) (.pointer (some ⟨w1.heap.size + 1, 0, none⟩)) (by rfl) (.agg (cellsOf dB).toArray) HS0.out.lb ?_) | (refine wpList_loadg 42 _ (by rfl) (by rfl) (.pointer (some ⟨w1.heap.size + 1 + 1, 0, none⟩)) (by rfl) (.agg (cellsOf dC).toArray) HS0.out.lc ?_) | (refine wpList_layG 1 _ (by rfl) (by rfl) (cellsOf [dB].flatten).toArray (by exact lit1 dB d32_B) ?_) | fail)
  refine HR1.out.mono ?_
  intro e6 w6 hr6
  obtain ⟨a6, c6, rfl, hb6⟩ := reachR_len hr6 reachB (L := [dB]) (by simp) (by simp [d32_B]) mrB
  have hb56 : Below w5.heap.size w5 w6 := ((Below.refl _ _).alloc (Nat.le_refl _) _).trans (hb6.mono (by simp))
  have HS1 := Lib.hid (HS0.out.below hb56)
  have HBX6 := Lib.hid (HBX5.out.trans (hb56.mono HS0.out.hB))
  clear hr6 hb6 hb56 HR1 HS0 HBX5
  have HR2 := Lib.hid (HS1.out.reach dC d32_C)
  go_wp2_with (first | (refine wpList_loadg 42 _ (by rfl) (by rfl) (.pointer (some ⟨w1.heap.size, 0, none⟩)) (by rfl) (.agg (cellsOf dA).toArray) HS1.out.la ?_) | (refine wpList_loadg 42 _ (by rfl) (by rfl) (.pointer (some ⟨w1.heap.size + 1, 0, none⟩)) (by rfl) (.agg (cellsOf dB).toArray) HS1.out.lb ?_) | (refine wpList_loadg 42 _ (by rfl) (by rfl) (.pointer (some ⟨w1.heap.size + 1 + 1, 0, none⟩)) (by rfl) (.agg (cellsOf dC).toArray) HS1.out.lc ?_) | (refine wpList_layG 1 _ (by rfl) (by rfl) (cellsOf [dC].flatten).toArray (by exact lit1 dC d32_C) ?_) | fail)
  refine HR2.out.mono ?_
  intro e7 w7 hr7
  obtain ⟨a7, c7, rfl, hb7⟩ := reachR_len hr7 reachC (L := [dA, dB, dC]) (by decide) (by simp [d32_A, d32_B, d32_C]) mrC
  have hb67 : Below w6.heap.size w6 w7 := ((Below.refl _ _).alloc (Nat.le_refl _) _).trans (hb7.mono (by simp))
  have HS2 := Lib.hid (HS1.out.below hb67)
  have HBX7 := Lib.hid (HBX6.out.trans (hb67.mono HS1.out.hB))
  clear hr7 hb7 hb67 HR2 HS1 HBX6
  have HRF := Lib.hid HS2.out.refs
  go_wp2_with (first | (refine wpList_loadg 42 _ (by rfl) (by rfl) (.pointer (some ⟨w1.heap.size, 0, none⟩)) (by rfl) (.agg (cellsOf dA).toArray) HS2.out.la ?_) | (refine wpList_loadg 42 _ (by rfl) (by rfl) (.pointer (some ⟨w1.heap.size + 1, 0, none⟩)) (by rfl) (.agg (cellsOf dB).toArray) HS2.out.lb ?_) | (refine wpList_loadg 42 _ (by rfl) (by rfl) (.pointer (some ⟨w1.heap.size + 1 + 1, 0, none⟩)) (by rfl) (.agg (cellsOf dC).toArray) HS2.out.lc ?_) | fail)
  refine HRF.out.mono ?_
  rintro e8 w8 ⟨rfl, hb8⟩
  have HS3 := Lib.hid (HS2.out.below hb8)
  have HBX8 := Lib.hid (HBX7.out.trans (hb8.mono HS2.out.hB))
  clear hb8 HRF HS2 HBX7
  have HST := Lib.hid (HS3.out.step (by omega) 1 (by omega))
  go_wp2_with fail
  refine HST.out.mono ?_
  rintro e9 w9 ⟨rfl, hs9, hb9⟩
  rw [show (decide ((itP f3 1 ([dA], fun _ => false)).1.length = 0)) = false from by rw [markA]; rfl]
  rw [markA] at hs9
  have HS4 := Lib.hid hs9
  have HBX9 := Lib.hid (HBX8.out.trans hb9)
  clear hs9 hb9 HST HS3 HBX8
  have HLF := Lib.hid (show Calls Try.prog 13 #[.pointer (some ⟨k, 0, none⟩)] w9 fun e w' => e = .returned (.int .i64 2) ∧ w' = w9 from HS4.out.left)
  go_wp2_with fail
  refine HLF.out.mono ?_
  rintro e10 w10 ⟨rfl, rfl⟩
  have HST := Lib.hid (HS4.out.step (by omega) 9 (by omega))
  go_wp2_with fail
  refine HST.out.mono ?_
  rintro e11 w11 ⟨rfl, hs11, hb11⟩
  rw [show (decide ((itP f3 9 ([dB, dC], bk (fun _ => false) dA)).1.length = 0)) = true from by rw [markA9]; rfl]
  have HBX11 := Lib.hid (HBX9.out.trans hb11)
  clear hs11 hb11 HST HLF HS4 HBX9
  go_wp2_with fail
  go_ret
  exact ⟨rfl, HBX11.out⟩
end Go.Proofs.Ytpppffgchgcghaa
