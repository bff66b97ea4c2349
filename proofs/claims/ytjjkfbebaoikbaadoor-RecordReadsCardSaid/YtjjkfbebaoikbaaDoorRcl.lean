/-
  Both Encodes of any record or head; a record as the program's, as the document's; what hallmarklaw14.awake answers.
-/
import Derived.Test.YtjjkfbebaoikbaaDoorRcj
namespace Go.Proofs.YtjjkfbebaoikbaaDoor.Rc
open Go.RowKit Go.Proofs.Nm Go.Proofs.YtjjkfbebaoikbaaDoor
set_option linter.unusedVariables false
def encX (r : Rcv) : List Nat × Int := if rightB r = true then (encL r, 0) else ([], 1)
def encHX (h : Hdv) : List Nat × Int := if hrB h = true then (hencL h, 0) else ([], 1)
def ER (w : World) (x : List Nat × Int) (e : Ending) (w' : World) : Prop := ∃ v, e = .returned (.tuple #[v, .int .i64 x.2]) ∧ Own w' w.heap.size v x.1 ∧ Below w.heap.size w w'
theorem encL_byte {r : Rcv} (hr : rightB r = true) (hd : dOk r.dig) : ∀ z ∈ encL r, z < 256 := by
  obtain ⟨h1, -⟩ := right_parts hr
  intro z hz
  unfold encL at hz
  simp only [List.mem_append, List.mem_singleton] at hz
  rcases hz with rfl | hz | hz | hz | hz
  · omega
  · unfold txL at hz
    exact (List.mem_append.1 hz).elim (Cntm.cnt_byte _ z) (sB_byte _ z)
  · unfold txL at hz
    exact (List.mem_append.1 hz).elim (Cntm.cnt_byte _ z) (sB_byte _ z)
  · split at hz
    · exact hd.2 z hz
    · simp at hz
  · exact Numm.put_byte _ _ z hz
theorem encX_byte (r : Rcv) (hd : dOk r.dig) : ∀ z ∈ (encX r).1, z < 256 := by
  unfold encX
  split
  · rename_i hr
    exact encL_byte hr hd
  · simp
theorem hencL_byte (h : Hdv) (hd : dOk h.root) : ∀ z ∈ hencL h, z < 256 := by
  intro z hz
  unfold hencL at hz
  simp only [List.mem_append, List.mem_singleton] at hz
  rcases hz with rfl | hz | hz | hz
  · omega
  · exact Numm.put_byte _ _ z hz
  · exact hd.2 z hz
  · exact Numm.put_byte _ _ z hz
theorem encHX_byte (h : Hdv) (hd : dOk h.root) : ∀ z ∈ (encHX h).1, z < 256 := by
  unfold encHX
  split
  · exact hencL_byte h hd
  · simp
theorem encX_len (r : Rcv) (hd : dOk r.dig) : (encX r).1.length ≤ 1000 := by
  unfold encX
  split
  · rename_i hr
    obtain ⟨-, h2, h3, -⟩ := right_parts hr
    rw [encL_len r hd.1]
    have e1 : (txL (sB r.repo)).length ≤ 138 := by unfold txL; have := Cntm.cnt_len10 (sB r.repo).length (by rw [sB_len]; omega); rw [List.length_append]; have := sB_len r.repo; omega
    have e2 : (txL (sB r.tag)).length ≤ 138 := by unfold txL; have := Cntm.cnt_len10 (sB r.tag).length (by rw [sB_len]; omega); rw [List.length_append]; have := sB_len r.tag; omega
    have e3 : szD r.k ≤ 32 := by unfold szD; split <;> omega
    omega
  · simp
theorem encHX_len (h : Hdv) (hd : dOk h.root) : (encHX h).1.length ≤ 1000 := by
  unfold encHX
  split
  · unfold hencL
    simp only [List.length_append, Numm.put_len, hd.1, List.length_singleton]
    omega
  · simp
theorem enc_c (r : Rcv) (hd : dOk r.dig) (hs : SzR r) (w : World) : Calls Tryd.prog 7 #[.agg (recC r)] w (ER w (encX r)) := by
  unfold encX
  cases hr : rightB r with
  | false =>
    refine (enc_no r hd hs hr w).mono ?_
    rintro e w' ⟨rfl, hb⟩
    exact ⟨_, rfl, Own.nil _ _, hb⟩
  | true =>
    obtain ⟨h1, -, -, h4, -⟩ := right_parts hr
    obtain ⟨k, repo, tag, dig, t⟩ := r
    simp only at h1 h4
    obtain ⟨M, rfl⟩ : ∃ M : Nat, t = M := ⟨t.toNat, by omega⟩
    rcases h1 with rfl | ⟨rfl, -⟩
    · exact enc_ok1 repo tag dig M hd hr w
    · exact enc_ok2 repo tag dig M hd hr w
theorem renc_c (r : Rcv) (hd : dOk r.dig) (hs : SzR r) (w : World) : Calls Tryd.prog 9 #[.agg (recC r)] w (ER w (encX r)) := by
  unfold encX
  cases hr : rightB r with
  | false =>
    refine (renc_no r hd hs hr w).mono ?_
    rintro e w' ⟨rfl, hb⟩
    exact ⟨_, rfl, Own.nil _ _, hb⟩
  | true =>
    obtain ⟨h1, -, -, h4, -⟩ := right_parts hr
    obtain ⟨k, repo, tag, dig, t⟩ := r
    simp only at h1 h4
    obtain ⟨M, rfl⟩ : ∃ M : Nat, t = M := ⟨t.toNat, by omega⟩
    rcases h1 with rfl | ⟨rfl, -⟩
    · exact renc_ok1 repo tag dig M hd hr w
    · exact renc_ok2 repo tag dig M hd hr w
theorem encH_c (h : Hdv) (hd : dOk h.root) (w : World) : Calls Tryd.prog 17 #[.agg (hdC h)] w (ER w (encHX h)) := by
  unfold encHX
  cases hr : hrB h with
  | false =>
    refine (encH_no h hd hr w).mono ?_
    rintro e w' ⟨rfl, hb⟩
    exact ⟨_, rfl, Own.nil _ _, hb⟩
  | true =>
    have hr2 := hr
    unfold hrB at hr2
    rw [Bool.and_eq_true] at hr2
    have h1 := of_decide_eq_true hr2.1
    have h2 := of_decide_eq_true hr2.2
    obtain ⟨n, root, t⟩ := h
    simp only at h1 h2
    obtain ⟨N, rfl⟩ : ∃ N : Nat, n = N := ⟨n.toNat, by omega⟩
    obtain ⟨M, rfl⟩ : ∃ M : Nat, t = M := ⟨t.toNat, by omega⟩
    exact encH_ok N M root hd (by omega) (by omega) w
theorem rencH_c (h : Hdv) (hd : dOk h.root) (w : World) : Calls Tryd.prog 18 #[.agg (hdC h)] w (ER w (encHX h)) := by
  unfold encHX
  cases hr : hrB h with
  | false =>
    refine (rencH_no h hd hr w).mono ?_
    rintro e w' ⟨rfl, hb⟩
    exact ⟨_, rfl, Own.nil _ _, hb⟩
  | true =>
    have hr2 := hr
    unfold hrB at hr2
    rw [Bool.and_eq_true] at hr2
    have h1 := of_decide_eq_true hr2.1
    have h2 := of_decide_eq_true hr2.2
    obtain ⟨n, root, t⟩ := h
    simp only at h1 h2
    obtain ⟨N, rfl⟩ : ∃ N : Nat, n = N := ⟨n.toNat, by omega⟩
    obtain ⟨M, rfl⟩ : ∃ M : Nat, t = M := ⟨t.toNat, by omega⟩
    exact rencH_ok N M root hd (by omega) (by omega) w
theorem results_row_oneR {P : Program} {fn : Func} {p : Tmp} {ty : TypeId} (h : fn.results = #[.cell p ty]) (tmps : Array Value) (w : World) (g : Nat) (t : TypeId) (cs : Array Value) (fr : Nat × Nat) (fs : Array Field)
    (hp : tmps.getD p undef = .pointer (some ⟨g, 0, none⟩)) (hg : w.heap[g]? = some (.cells cs t fr)) (hu : P.underlying ty = some (.struct fs)) (hi : (P.info? ty).map (·.size) = some cs.size) :
    (results fn tmps).run P w = .ok (.agg cs) w := by
  have hp' : tmps[p]?.getD undef = .pointer (some ⟨g, 0, none⟩) := by simpa using hp
  simp only [results, h]
  simp [Sem.run_bind, Result.andThen, hp', asAddr, run_loadVar_row w g t ty cs fr _ hg hu rfl hi]
theorem built_p (k t : Int) (a b : List UInt8) (x : List Nat) (hx : x.length = 32) : Tryd.prog.built 31 [(0, .int .i64 k), (1, .string (T a)), (2, .string (T b)), (3, .agg (cellsOf x).toArray), (4, .int .i64 t)] = some (recC ⟨k, a, b, x, t⟩) := by
  obtain ⟨f, rfl⟩ := list32n hx
  clear hx
  kernel_rfl
theorem built_q (k t : Int) (a b : List UInt8) (x : List Nat) (hx : x.length = 32) : Tryd.prog.built 24 [(0, .int .i64 k), (1, .string (T a)), (2, .string (T b)), (3, .agg (cellsOf x).toArray), (4, .int .i64 t)] = some (recC ⟨k, a, b, x, t⟩) := by
  obtain ⟨f, rfl⟩ := list32n hx
  clear hx
  kernel_rfl
/-- the argument's box and the result's -/
structure B2 (w : World) (g : Nat) (t s : TypeId) (C D : Array Value) (W : World) : Prop where
  a : RW W g t C
  b : RW W (g + 1) s D
  below : Below w.heap.size w W
theorem B2.new (w : World) (t s : TypeId) (C D : Array Value) : B2 w w.heap.size t s C D ((w.alloc (.cells C t (0, 0))).alloc (.cells D s (0, 0))) := by
  obtain ⟨h1, h2⟩ := (show ((w.alloc (.cells C t (0, 0))).alloc (.cells D s (0, 0))).heap[w.heap.size]? = some (.cells C t (0, 0)) ∧ ((w.alloc (.cells C t (0, 0))).alloc (.cells D s (0, 0))).heap[w.heap.size + 1]? = some (.cells D s (0, 0)) from by
    refine ⟨?_, ?_⟩
    · rw [Below.heap_alloc _ _ _ (by simp)]; exact heap_new w _
    · have := heap_new (w.alloc (.cells C t (0, 0))) (.cells D s (0, 0))
      simpa using this)
  exact ⟨h1, h2, ((Below.refl _ _).alloc (Nat.le_refl _) _).alloc (by simp) _⟩
set_option maxRecDepth 100000 in
set_option maxHeartbeats 4000000 in
theorem to_c (r : Rcv) (hd : dOk r.dig) (w : World) :
    Calls Tryd.prog 8 #[.agg (recC r)] w fun e w' => e = .returned (.agg (recC r)) ∧ Below w.heap.size w w' := by
  have HD := Lib.hid hd
  have HI := Lib.hid (show (Tryd.prog.info? 31).map (·.size) = some (recC r).size from by rw [recC_size hd]; exact info_p)
  have HO := Lib.hid (recC_one r)
  have HZ := Lib.hid (recC_size hd)
  have HBX := Lib.hid (built_p r.k r.t r.repo r.tag r.dig hd.1)
  obtain ⟨C, hC⟩ : ∃ C, C = recC r := ⟨_, rfl⟩
  have HCC := Lib.hid hC
  rw [show recC ⟨r.k, r.repo, r.tag, r.dig, r.t⟩ = recC r from rfl, ← hC] at HBX
  rw [← hC] at HI HO HZ ⊢
  clear hC hd
  go_enter Tryd.func8, Tryd.ntmps8
  go_upto_region 1 with (fail)
  obtain ⟨g, hg⟩ : ∃ g, g = w.heap.size := ⟨_, rfl⟩
  refine gen_codeR (F := B2 w g 24 31 C (recC rc0)) (by rw [hg]; exact B2.new _ _ _ _ _) ?_
  rw [← hg]
  intro w0 hb0
  have H0 := Lib.hid hb0
  have hra := hb0.a
  rw [HCC.out] at hra
  have c0 := hra.c0
  have c1 := hra.c1
  have c2 := hra.c2
  have c35 := hra.c35 HD.out
  have HDG := Lib.hid hra.digAt
  have HGE := Lib.hid (show w.heap.size ≤ g + 1 by omega)
  clear hg hb0 hra HCC
  go_wp2_with (first | (refine wpList_runR (by rfl) _ (exec_ldMid HDG.out HD.out.1 und_dr info_dr (by rfl) _ rfl) ?_) | (refine wpList_buildR 31 _ (by rfl) (by rfl) C (by simp only [List.map_toArray, List.map_cons, List.map_nil]; exact HBX.out) ?_) | (refine wpList_store_row (by rfl) 31 _ _ (by rfl) (g + 1) C (by rfl) (by rfl) 31 (recC rc0) H0.out.b HI.out (by rw [recC_size rc0_ok, HZ.out]) HO.out ?_))
  exact bodyPost_ret (results_row_oneR rfl _ _ (g + 1) 31 C (0, 0) _ (by rfl) H0.out.b.setRow Tryd.underlying31 HI.out) rfl ⟨rfl, H0.out.below.setRow HGE.out _⟩
set_option maxRecDepth 100000 in
set_option maxHeartbeats 4000000 in
theorem from_c (r : Rcv) (hd : dOk r.dig) (w : World) :
    Calls Tryd.prog 16 #[.agg (recC r)] w fun e w' => e = .returned (.agg (recC r)) ∧ Below w.heap.size w w' := by
  have HD := Lib.hid hd
  have HI := Lib.hid (show (Tryd.prog.info? 24).map (·.size) = some (recC r).size from by rw [recC_size hd]; exact info_q)
  have HO := Lib.hid (recC_one r)
  have HZ := Lib.hid (recC_size hd)
  have HBX := Lib.hid (built_q r.k r.t r.repo r.tag r.dig hd.1)
  obtain ⟨C, hC⟩ : ∃ C, C = recC r := ⟨_, rfl⟩
  have HCC := Lib.hid hC
  rw [show recC ⟨r.k, r.repo, r.tag, r.dig, r.t⟩ = recC r from rfl, ← hC] at HBX
  rw [← hC] at HI HO HZ ⊢
  clear hC hd
  go_enter Tryd.func16, Tryd.ntmps16
  go_upto_region 1 with (fail)
  obtain ⟨g, hg⟩ : ∃ g, g = w.heap.size := ⟨_, rfl⟩
  refine gen_codeR (F := B2 w g 31 24 C (recC rc0)) (by rw [hg]; exact B2.new _ _ _ _ _) ?_
  rw [← hg]
  intro w0 hb0
  have H0 := Lib.hid hb0
  have hra := hb0.a
  rw [HCC.out] at hra
  have c0 := hra.c0
  have c1 := hra.c1
  have c2 := hra.c2
  have c35 := hra.c35 HD.out
  have HDG := Lib.hid hra.digAt
  have HGE := Lib.hid (show w.heap.size ≤ g + 1 by omega)
  clear hg hb0 hra HCC
  go_wp2_with (first | (refine wpList_runR (by rfl) _ (exec_ldMid HDG.out HD.out.1 und_dg info_dg (by rfl) _ rfl) ?_) | (refine wpList_buildR 24 _ (by rfl) (by rfl) C (by simp only [List.map_toArray, List.map_cons, List.map_nil]; exact HBX.out) ?_) | (refine wpList_store_row (by rfl) 24 _ _ (by rfl) (g + 1) C (by rfl) (by rfl) 24 (recC rc0) H0.out.b HI.out (by rw [recC_size rc0_ok, HZ.out]) HO.out ?_))
  exact bodyPost_ret (results_row_oneR rfl _ _ (g + 1) 24 C (0, 0) _ (by rfl) H0.out.b.setRow Tryd.underlying24 HI.out) rfl ⟨rfl, H0.out.below.setRow HGE.out _⟩
def ar0 : Rcv := ⟨2, [97], [98], zs32, 1⟩
theorem ar0_right : rightB ar0 = true := by decide +kernel
theorem ar0_enc : encL ar0 = [2, 1, 97, 1, 98, 0, 0, 0, 0, 0, 0, 0, 1] := by
  unfold encL ar0 txL sB
  simp only [List.map_cons, List.map_nil, List.length_cons, List.length_nil]
  rw [Cntm.cnt_lo (by decide)]
  rfl
theorem built_ar : Tryd.prog.built 31 [(0, .int .i64 2), (1, .string ⟨#[97]⟩), (2, .string ⟨#[98]⟩), (4, .int .i64 1)] = some (recC ar0) := by kernel_rfl
theorem built_ah : Tryd.prog.built 48 [(0, .int .i64 1)] = some (hdC ⟨1, zs32, 0⟩) := by kernel_rfl
def aLit : List Nat := [2, 1, 97, 1, 98, 0, 0, 0, 0, 0, 0, 0, 1]
def aLitW (w : World) : World := w.alloc (.cells #[.int .u8 2, .int .u8 1, .int .u8 97, .int .u8 1, .int .u8 98, .int .u8 0, .int .u8 0, .int .u8 0, .int .u8 0, .int .u8 0, .int .u8 0, .int .u8 0, .int .u8 1] 5)
theorem aLit_rd (w : World) : Rd (aLitW w) (some ⟨w.heap.size, 0, none⟩) 13 aLit := Brow.rd (t := 5) (show (aLitW w).heap[w.heap.size]? = some (.cells (cellsOf aLit).toArray 5 (0, 0)) from heap_new w _) (by decide)
theorem aLit_below (w : World) : Below w.heap.size w (aLitW w) := (Below.refl _ _).alloc (Nat.le_refl _) _
/-- a value that is laid in a box of its own -/
theorem new_box (W : World) (t : TypeId) (C D : Array Value) : RW ((W.alloc (.cells C t (0, 0))).setRow W.heap.size D) W.heap.size t D ∧ Below W.heap.size W ((W.alloc (.cells C t (0, 0))).setRow W.heap.size D) := ⟨(RW.new W t C).setRow, ((Below.refl _ W).alloc (Nat.le_refl _) _).setRow (Nat.le_refl _) _⟩
theorem awk4 {w w3 w4 : World} {j n : Nat} {C : Array Value} (h : RW w3 j 31 C) (hb : Below w.heap.size w w3) (hw : w4 = (aLitW w3).drewN n) : RW w4 j 31 C ∧ Below w.heap.size w w4 := by
  have hb2 : Below w3.heap.size w3 w4 := by rw [hw]; exact (aLit_below w3).trans (below_drewN' _ _ n)
  exact ⟨h.below hb2, hb.trans (hb2.mono hb.size)⟩
set_option maxRecDepth 100000 in
set_option maxHeartbeats 8000000 in
theorem awake14_c (w : World) : Calls Tryd.prog 10 #[] w fun e w' => e = .returned (.bool true) ∧ Below w.heap.size w w' := by
  have HE := Lib.hid (enc_c ar0 dOk_zs ⟨by decide, by decide⟩ w)
  rw [show encX ar0 = (aLit, 0) from by unfold encX; rw [if_pos ar0_right, ar0_enc]; rfl] at HE
  have HDA := Lib.hid (show decL aLit = some ar0 from by have := decL_enc ar0_right dOk_zs; rw [ar0_enc] at this; exact this)
  have HBA := Lib.hid built_ar
  have HBH := Lib.hid built_ah
  have HI := Lib.hid (show (Tryd.prog.info? 31).map (·.size) = some (recC ar0).size from by rw [recC_size dOk_zs]; exact info_p)
  have HO := Lib.hid (recC_one ar0)
  have HZ := Lib.hid (recC_size (r := ar0) dOk_zs)
  have HRH := Lib.hid fun W => rightH_c ⟨1, zs32, 0⟩ dOk_zs W
  rw [show hrB ⟨1, zs32, 0⟩ = true from by decide] at HRH
  obtain ⟨C, hC⟩ : ∃ C, C = recC ar0 := ⟨_, rfl⟩
  have HCC := Lib.hid hC
  rw [← hC] at HE HBA HI HO HZ
  obtain ⟨H, hH⟩ : ∃ C, C = hdC ⟨1, zs32, 0⟩ := ⟨_, rfl⟩
  rw [← hH] at HBH HRH
  clear hC hH
  have HLB := Lib.hid (show ∀ z ∈ aLit, z < 256 by decide)
  go_enter Tryd.func10, Tryd.ntmps10
  go_wp2_with (refine wpList_buildR 31 _ (by rfl) (by rfl) C (by simp only [List.map_toArray, List.map_cons, List.map_nil]; exact HBA.out) ?_)
  refine HE.out.mono ?_
  rintro e1 w1 ⟨v1, rfl, ho1, hb1⟩
  obtain ⟨a1, n1, c1, rfl, hl1, hlc1, hcm1, -, hr1, -⟩ := ho1.form HLB.out
  have hn1 : n1 = 13 := by rw [← hl1]; rfl
  subst hn1
  have HR1 := Lib.hid hr1
  have HB1 := Lib.hid hb1
  have HDE := Lib.hid (dec_c a1 13 c1 aLit w1 hr1 hlc1 (by omega) hcm1)
  rw [HDA.out] at HDE
  unfold DR at HDE
  simp only [Option.getD_some, Option.isSome_some, if_true] at HDE
  rw [← HCC.out] at HDE
  clear ho1 hb1 hl1 hlc1 hcm1 hr1 HE
  go_upto_region 3 with (first | (go_at_call 14; refine HDE.out.mono ?_; rintro e2 w2 ⟨rfl, hb2⟩; have HNB := Lib.hid (RW.new w2 31 (recC rc0)); have HB2 := Lib.hid hb2; clear hb2) | (refine wpList_store_row (by rfl) 31 _ _ (by rfl) w2.heap.size C (by rfl) (by rfl) 31 (recC rc0) (by exact HNB.out) HI.out (by rw [recC_size rc0_ok, HZ.out]) HO.out ?_))
  obtain ⟨j, hj⟩ : ∃ j, j = w2.heap.size := ⟨_, rfl⟩
  refine gen_codeR (F := fun W => RW W j 31 C ∧ Below w2.heap.size w2 W) (by rw [hj]; exact new_box w2 _ (recC rc0) _) ?_
  rw [← hj]
  rintro w3 ⟨h3, hb3⟩
  rw [hj] at hb3
  have H3 := Lib.hid h3
  have HR3 := Lib.hid ((HR1.out.below HB2.out).below hb3)
  have HB3 := Lib.hid (HB1.out.trans ((HB2.out.trans (hb3.mono HB2.out.size)).mono HB1.out.size))
  clear hj h3 hb3 HNB HR1 HB1 HB2 HDE
  have HSM := Lib.hid (same_c a1 (some ⟨w3.heap.size, 0, none⟩) 13 c1 13 13 aLit aLit (aLitW w3) (HR3.out.below (aLit_below w3)) (aLit_rd w3) (by omega))
  rw [decide_eq_true rfl] at HSM
  unfold aLitW at HSM
  go_wp2_with (first | (go_at_call 13; refine HSM.out.mono ?_; rintro e4 w4 ⟨rfl, n4, hw4⟩; have H4 := Lib.hid (awk4 H3.out HB3.out hw4); have r4 := H4.out.1; rw [HCC.out] at r4; have k2 := r4.c2; simp only [ar0] at k2; clear r4 hw4) | (refine wpList_buildR 48 _ (by rfl) (by rfl) H (by simp only [List.map_toArray, List.map_cons, List.map_nil]; exact HBH.out) ?_) | (go_at_call 21; (refine (HRH.out _).mono ?_); rintro e5 w5 ⟨rfl, hb5⟩; have HB5 := Lib.hid (H4.out.2.trans (hb5.mono H4.out.2.size)); clear hb5))
  go_ret
  exact ⟨rfl, HB5.out⟩
end Go.Proofs.YtjjkfbebaoikbaaDoor.Rc
