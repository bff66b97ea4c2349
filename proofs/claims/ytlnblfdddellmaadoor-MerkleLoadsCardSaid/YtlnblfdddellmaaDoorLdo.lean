/-
  The walk over MerkleLoads where one leaf more is added.
-/
import Derived.Test.YtlnblfdddellmaaDoorLds
namespace Go.Proofs.YtlnblfdddellmaaDoor
open Go.RowKit
set_option linter.unusedVariables false
section
variable {P : Program} {ops : Array Oper} {Q : Exit → Act → World → Prop} {md : Region.Mode} {S : World → Prop}
theorem op_atL (i : Nat) {d : Option Tmp} {op : Op} {a : Act} {w : World} {K : Act → World → Prop} (hi : (ops[i]?.map fun o => (o.dst, o.op, o.guard)) = some (d, op, none))
    (h : ∀ o : Oper, o.dst = d → o.op = op → o.wp P a w K Q) : wpOp P ops Q i K a w := by
  cases ho : ops[i]? with
  | none => simp [ho] at hi
  | some o =>
    simp only [ho, Option.map_some, Option.some.injEq, Prod.mk.injEq] at hi
    obtain ⟨g1, g2, g3⟩ := hi
    unfold wpOp
    simp only [ho, wanted_plain g3, if_true]
    exact .inl (h o g1 g2)
theorem gen_anyHL {fuel : Nat} {listed : Array Bool} {a : Act} {W : World} {F : World → Prop} (h : F W) (k : ∀ w, F w → wpAnyH P md ops Q S fuel listed a w) : wpAnyH P md ops Q S fuel listed a W := k W h
end
/-- append of one sum: the new slice lies where the old one lay, or in a new block -/
theorem wpList_dpush_at {T E : TypeId} (hT : DT T E) {w : World} {ops : Array Oper} {rest : List Oper} {o : Oper} {a : Act} {Q : Exit → Act → World → Prop} (hgd : o.guard = none) (s x : Operand)
    (ho : o.op = .call { callee := .builtin .append, args := #[s, x], argTypes := #[T, T] })
    (B : Nat) (v : Value) (ds : Ds) (d : List Nat) (hd : D32 d) (hs : a.eval s = v) (hown : OwnD w B E v ds) (hB : B ≤ w.heap.size) (hx : a.eval x = .slice (some ⟨w.heap.size, 0, none⟩) 1 1)
    (hlen : ds.length + 1 ≤ 4398046511104)
    (h : ∀ v' w', OwnD w' B E v' (ds ++ [d]) → w.os = w'.os ∧ w.tape = w'.tape ∧ w.output = w'.output ∧ w.heap.size ≤ w'.heap.size → (∀ k, k < w.heap.size → v.ownBlock ≠ some k → w'.heap[k]? = w.heap[k]?) → (v'.ownBlock = v.ownBlock ∨ ∃ k, v'.ownBlock = some k ∧ w.heap.size ≤ k) → wpList Tryd.prog ops Q rest (a.put o.dst v') w') :
    wpList Tryd.prog ops Q (o :: rest) a (w.alloc (.cells (cellsOf d).toArray E)) := by
  obtain ⟨i0, z, hi, hz0, hz1, hz2, hz3⟩ := hT.info
  refine wpList_append_own_at _ hgd s x T ho B E i0 z 32 32 hT.und hi hz0 hz1 hz2 hz3 (by decide) v ds.length (cellsOf ds.flatten) hs (hown.alloc _) ⟨w.heap.size, 0, none⟩ 1 1 (cellsOf d) hx (by rw [cellsOf_length, hd.1]) ?_ (cellsOf_one _) (by unfold maxLen; omega) (by omega) (by simp; omega) ?_
  · intro j u hj
    rw [Addr.add_mid, Nat.zero_add, cell_of_row _ _ _ _ _ _ (heap_new _ _)]
    simpa using hj
  · intro v' w' h1 h2 _ hat
    refine h v' w' ?_ ⟨h2.os.symm, h2.tape.symm, h2.output.symm, Nat.le_trans (by simp) h2.size⟩ (fun k hk hne => (h2.block k (by simp; omega) (fun e => hne e.symm)).trans (Below.heap_alloc _ _ _ hk)) ?_
    · unfold OwnD
      rw [List.length_append, List.flatten_append, cellsOf_append]
      have e : [d].flatten = d := by simp
      rw [e]
      exact h1
    · rcases hat with h | h
      · exact .inl h
      · exact .inr ⟨_, h, by simp⟩
theorem own_two_d {W : World} {B B' : Nat} {v v' : Value} {ds es : Ds} (h : OwnD W B 32 v ds) (h' : OwnD W B' 31 v' es) : ∀ k, v.ownBlock = some k → v'.ownBlock ≠ some k := by
  rintro k hk hk'
  rcases h.2 with ⟨h0, _⟩ | ⟨b, cap, cur, h1, h2, h3, h4⟩
  · rw [h0] at hk; cases hk
  rcases h'.2 with ⟨h0', _⟩ | ⟨b', cap', cur', h1', h2', h3', h4'⟩
  · rw [h0'] at hk'; cases hk'
  rw [h1] at hk
  rw [h1'] at hk'
  obtain rfl : b = k := Option.some.inj hk
  obtain rfl : b' = b := Option.some.inj hk'
  rw [h3] at h3'
  simp at h3'
theorem own_ne' {W : World} {g n B : Nat} {v v' : Value} {ds : Ds} (hF : FR W g n v) (hO : OwnD W B 31 v' ds) : v'.ownBlock ≠ some g := by
  intro hk
  rcases hO.2 with ⟨h0, _⟩ | ⟨b, cap, cur, h1, h2, h3, h4⟩
  · rw [h0] at hk; cases hk
  · rw [h1] at hk
    obtain rfl : b = g := Option.some.inj hk
    unfold FR at hF
    rw [h3] at hF
    simp at hF
/-- beside the frontier: the list that is wanted, and a sum -/
structure LW (w : World) (g n BL : Nat) (v : Value) (ds : Ds) (leaf : List Nat) (gd : Nat) (vw : Value) (es : Ds) (W : World) : Prop where
  lf : LF w g n BL v ds leaf W
  wa : OwnD W (w.heap.size + 1) 31 vw es
  n1 : w.heap.size < gd
  n2 : g ≠ gd
  n3 : ∀ k, v.ownBlock = some k → k ≠ gd
  n4 : ∀ k, vw.ownBlock = some k → k ≠ gd
  glt : gd < W.heap.size
theorem LW.step {w W W' : World} {g n BL gd : Nat} {v vw : Value} {ds es : Ds} {leaf : List Nat} (h : LW w g n BL v ds leaf gd vw es W) (hb : Below W.heap.size W W') : LW w g n BL v ds leaf gd vw es W' :=
  ⟨h.lf.step hb, OwnD.below h.wa hb (Nat.le_refl _), h.n1, h.n2, h.n3, h.n4, Nat.lt_of_lt_of_le h.glt hb.size⟩
theorem LW.only {w W W' : World} {g n BL gd : Nat} {v vw : Value} {ds es : Ds} {leaf : List Nat} (h : LW w g n BL v ds leaf gd vw es W) (ho : Only gd W W') : LW w g n BL v ds leaf gd vw es W' :=
  ⟨h.lf.only ho h.n1 h.n2 h.n3, OwnD.only h.wa ho h.n4, h.n1, h.n2, h.n3, h.n4, Nat.lt_of_lt_of_le h.glt ho.size⟩
theorem LW.drew {w W : World} {g n BL gd : Nat} {v vw : Value} {ds es : Ds} {leaf : List Nat} (h : LW w g n BL v ds leaf gd vw es W) : LW w g n BL v ds leaf gd vw es W.drew := ⟨h.lf.drew, h.wa, h.n1, h.n2, h.n3, h.n4, h.glt⟩
theorem LW.pushed {w W W' : World} {g n BL gd : Nat} {v vw v' : Value} {ds es es' : Ds} {leaf : List Nat} (h : LW w g n BL v ds leaf gd vw es W) (ho : OwnD W' (w.heap.size + 1) 31 v' es') (hk : W.os = W'.os ∧ W.tape = W'.tape ∧ W.output = W'.output ∧ W.heap.size ≤ W'.heap.size)
    (hx : ∀ k, k < W.heap.size → vw.ownBlock ≠ some k → W'.heap[k]? = W.heap[k]?) (hat : v'.ownBlock = vw.ownBlock ∨ ∃ k, v'.ownBlock = some k ∧ W.heap.size ≤ k) : LW w g n BL v ds leaf gd v' es' W' := by
  have hlo : ∀ k, k ≤ w.heap.size → vw.ownBlock ≠ some k := fun k hk e => by have := (OwnD.block h.wa k e).1; omega
  refine ⟨⟨⟨hk.1.symm.trans h.lf.bel.os, hk.2.1.symm.trans h.lf.bel.tape, hk.2.2.1.symm.trans h.lf.bel.output, Nat.le_trans h.lf.bel.size hk.2.2.2, fun k hk' => (hx k (Nat.lt_of_lt_of_le hk' h.lf.bel.size) (hlo k (by omega))).trans (h.lf.bel.block k hk')⟩, ?_, ?_, ?_, Nat.le_trans h.lf.lo hk.2.2.2⟩, ho, h.n1, h.n2, h.n3, ?_, Nat.lt_of_lt_of_le h.glt hk.2.2.2⟩
  · exact (hx g h.lf.fr.lt (own_ne' h.lf.fr h.wa)).trans h.lf.fr
  · refine ⟨h.lf.own.1, ?_⟩
    rcases h.lf.own.2 with h0 | ⟨b, cap, cur, h1, h2, h3, h4⟩
    · exact .inl h0
    · refine .inr ⟨b, cap, cur, h1, h2, (hx b (Array.getElem?_eq_some_iff.1 h3).1 (own_two_d h.lf.own h.wa b (by rw [h1]; rfl))).trans h3, h4⟩
  · exact (hx _ h.lf.box.lt (hlo _ (Nat.le_refl _))).trans h.lf.box
  · intro k hk'
    rcases hat with e | ⟨k', e, hk2⟩
    · exact h.n4 k (by rw [← e]; exact hk')
    · rw [e] at hk'
      have : k' = k := Option.some.inj hk'
      have := h.glt
      omega
set_option maxRecDepth 100000 in
set_option maxHeartbeats 16000000 in
theorem loads_ok (n : Nat) (a : Option Addr) (l cap : Nat) (zs : Ds) (leaf : List Nat) (w : World) (hn : n ≤ 9223372036854775807) (hn9 : n < 9223372036854775807) (hl1e : l = ones n) (hin : DigsIn w a l cap zs) (hlf : D32 leaf) (ht : Tab w) :
    Calls Tryd.prog 4 #[.int .i64 (n : Int), .slice a l cap, .agg (cellsOf leaf).toArray] w fun e w' => e = .returned (.bool true) ∧ Below w.heap.size w w' := by
  have HN9 := Lib.hid hn9
  have HL1E := Lib.hid hl1e
  clear hn9 hl1e
  obtain ⟨hr, hnil, hlc, hcm⟩ := hin
  have HR := Lib.hid hr
  have HLF := Lib.hid hlf
  have HT := Lib.hid ht
  have hpos := ht.pos
  have HAW := Lib.hid (show ∀ W, Below w.heap.size w W → Calls Tryd.prog 6 #[] W (fun e w' => e = .returned (.bool true) ∧ Below W.heap.size W w') from fun W hW => awake3_c W (HT.out.below hW hpos))
  clear hr hlf ht
  go_enter Tryd.func4, Tryd.ntmps4
  go_upto_region 1 with fail
  refine gen_code (F := fun W => Brow W w.heap.size 31 leaf ∧ Below w.heap.size w W) ⟨heap_new _ _, (Below.refl _ _).alloc (Nat.le_refl _) _⟩ ?_
  rintro wA ⟨hba, hbb⟩
  have HBA := Lib.hid hba
  have HB := Lib.hid hbb
  have HTO := Lib.hid (to_c l zs a cap wA (HR.out.below hbb) (by omega))
  clear hba hbb
  go_wp2_with fail
  refine HTO.out.mono ?_
  rintro e1 w1 ⟨v1, rfl, ho1, hb1⟩
  obtain ⟨a1, l1, c1, rfl, hl1, hlc1, hcm1, hnil1, hr1⟩ := OwnD.form ho1 HR.out.2.1
  obtain rfl : l = l1 := HR.out.1.symm.trans hl1
  have HB1 := Lib.hid (HB.out.trans (hb1.mono HB.out.size))
  have HBA1 := Lib.hid (HBA.out.below hb1 HBA.out.lt)
  have HON := Lib.hid (fun W => rones_c n W hn)
  rw [← HL1E.out] at HON
  have HLO := Lib.hid (load_c n l zs a1 c1 w1 hn hr1 hnil1 HL1E.out)
  have hn0 : ¬ (n : Int) < 0 := by omega
  have hn0' : decide ((n : Int) < 0) = false := decide_eq_false hn0
  have hl63 : l ≤ 63 := by rw [HL1E.out]; exact ones_le63 n hn
  have hw1 := HB1.out.size
  have hlt1 := HBA1.out.lt
  obtain ⟨BL, hBL⟩ : ∃ BL, BL = w1.heap.size := ⟨_, rfl⟩
  clear ho1 hb1 hr1 hl1 HTO
  go_wp2_with fail
  refine HLO.out.mono ?_
  rintro e2 w2 ⟨g, v, rfl, hg, hF, hO, hb2⟩
  rw [← hBL] at hg hO
  have HS := Lib.hid (show LF w g n BL v zs leaf w2 from ⟨HB1.out.trans (hb2.mono HB1.out.size), hF, hO, HBA1.out.below hb2 HBA1.out.lt, by rw [hBL]; exact hb2.size⟩)
  rw [← hBL] at hw1 hlt1
  have hgw : w.heap.size < g := by omega
  have hBw : w.heap.size < BL := hlt1
  clear hF hO hb2 hBL HLO HB1 HBA1 HB HBA hnil1
  have HZL := Lib.hid HR.out.1
  have HZD := Lib.hid HR.out.2.1
  have HRW := Lib.hid (fun W (hW : Below w.heap.size w W) => HR.out.below hW)
  have HLFI := Lib.hid (info32 dtR HLF.out)
  have HNN := Lib.hid hn
  clear hn
  have hself : ((n : Int) == (n : Int)) = true := by simp
  have hselfl : ((l : Int) == (l : Int)) = true := by simp
  go_upto_region 6 with (first | (go_at_call 6; refine (HAW.out _ HS.out.bel).mono ?_; rintro e9 w9 ⟨rfl, hb9⟩; have HS := Lib.hid (HS.out.step hb9); clear hb9))
  go_upto_region 8 with (first | (go_at_call 19; refine (HON.out _).mono ?_; rintro e8 w8 ⟨rfl, rfl⟩))
  trace_state
  go_upto_region 10 with (first | (go_at_call 6; refine (HAW.out _ HS.out.bel).mono ?_; rintro e9 w9 ⟨rfl, hb9⟩; have HS := Lib.hid (HS.out.step hb9); clear hb9) | (go_at_call 19; refine (HON.out _).mono ?_; rintro e8 w8 ⟨rfl, rfl⟩) | (go_at_call 10; refine (fsize_c g n v _ HS.out.fr).mono ?_; rintro e7 w7 ⟨rfl, rfl⟩) | (go_at_call 9; refine (tops_c g n BL v zs _ HS.out.fr HS.out.own HZD.out (by rw [HZL.out]; omega)).mono ?_; rintro e6 w6 ⟨v6, rfl, ho6, hb6⟩; obtain ⟨a6, l6, c6, rfl, hl6, hlc6, hcm6, hnil6, hr6⟩ := OwnD.form ho6 HZD.out; obtain rfl : l = l6 := HZL.out.symm.trans hl6; have HR6 := Lib.hid hr6; have HS := Lib.hid (HS.out.step hb6); clear hb6 ho6 hl6 hlc6 hcm6 hnil6 hr6) | (go_at_call 14; refine (from_c l zs a6 c6 _ HR6.out (by omega)).mono ?_; rintro e5 w5 ⟨v5, rfl, ho5, hb5⟩; obtain ⟨a5, l5, c5, rfl, hl5, hlc5, hcm5, hnil5, hr5⟩ := OwnD.form ho5 HZD.out; obtain rfl : l = l5 := HZL.out.symm.trans hl5; have HR5 := Lib.hid hr5; have HS := Lib.hid (HS.out.step hb5); clear hb5 ho5 hl5 hlc5 hcm5 hnil5 hr5 HR6) | (go_at_call 13; refine (dsame_c l l (by omega) a5 a c5 cap zs zs _ HR5.out (HRW.out _ HS.out.bel)).mono ?_; rintro e4 w4 ⟨rfl, hb4⟩; have HS := Lib.hid (HS.out.step hb4); clear hb4 HR5))
  obtain ⟨R, hR⟩ : ∃ R, R = carryS 63 n zs leaf := ⟨_, rfl⟩
  have HRD := Lib.hid (show ∀ d ∈ R, D32 d from by rw [hR]; exact carry_d32 63 n zs leaf HZD.out HLF.out)
  have HRL := Lib.hid (show R.length = ones (n + 1) from by rw [hR]; exact carry_len 63 n zs leaf (Nat.lt_trans HN9.out (by decide)) (by rw [HZL.out, HL1E.out]))
  have HRE := Lib.hid hR
  have HRL2 := Lib.hid (show 1 ≤ R.length ∧ R.length ≤ 64 from by
    rw [HRL.out]
    have h1 := ones_le63 (n + 1) (by have := HN9.out; omega)
    have h2 : 0 < ones (n + 1) := by
      rw [← HRL.out, hR]
      have : ∀ (f q : Nat) (es : Ds) (t : List Nat), 0 < (carryS f q es t).length := by
        intro f
        induction f with
        | zero => intro q es t; simp [carryS]
        | succ f ih => intro q es t; rw [carryS]; split; exact ih _ _ _; simp
      exact this _ _ _ _
    omega)
  have HAD := Lib.hid (show ∀ W, LF w g n BL v zs leaf W → Calls Tryd.prog 17 #[.pointer (some ⟨g, 0, none⟩), .agg (cellsOf leaf).toArray] W (fun e w' => e = .returned (.int .i64 0) ∧ ∃ v', FR w' g (n + 1) v' ∧ OwnD w' BL 32 v' R ∧ Kp g BL W w') from fun W hW => by
    rw [HRE.out]
    exact fadd63_c g n BL v zs leaf W hW.fr hW.own hW.lo HLF.out HZD.out (by rw [HZL.out, HL1E.out]) HN9.out (by omega) (HT.out.below hW.bel hpos) (by omega))
  have HCUT := Lib.hid (show ∀ W, Below w.heap.size w W → Calls Tryd.prog 7 #[.slice a l cap, .int .i64 (l : Int)] W (RetDs 31 zs W) from fun W hW => by
    have := cut_c l l (l : Int) zs a cap W (HRW.out W hW) hlc hnil (by omega) (by omega)
    rwa [List.take_of_length_le (by rw [HZL.out]; exact Nat.le_refl _)] at this)
  have hm9 : ((n : Int) == 9223372036854775807) = false := by rw [beq_eq_false_iff_ne]; have := HN9.out; omega
  clear hR
  go_upto_region 11 with (first | (refine wpList_load_row (by rfl) 31 (.tmp 5) (by rfl) w.heap.size (by rfl) _ (cellsOf leaf).toArray (0, 0) _ HS.out.box Tryd.underlying31 (by rfl) HLFI.out ?_) | (go_at_call 17; refine (HAD.out _ HS.out).mono ?_; rintro e9 w9 ⟨rfl, v9, hF9, hO9, hK9⟩; have HS := Lib.hid (show LF w g (n + 1) BL v9 R leaf w9 from ⟨HS.out.bel.trans (hK9.below (by omega) (by omega)), hF9, hO9, hK9.brow HS.out.box (by omega) (by omega), Nat.le_trans HS.out.lo hK9.size⟩); clear hF9 hO9 hK9))
  go_upto_region 14 with (first | (go_at_call 7; refine (HCUT.out _ HS.out.bel).mono ?_; rintro e8 w8 ⟨v8, rfl, ho8, hb8⟩; obtain ⟨a8, l8, c8, rfl, hl8, hlc8, hcm8, hnil8, hr8⟩ := OwnD.form ho8 HZD.out; have HW8 := Lib.hid (OwnD.base ho8 HS.out.box.lt); have HS := Lib.hid (HS.out.step hb8); clear hb8 ho8 hr8 hnil8))
  obtain rfl : l = l8 := HZL.out.symm.trans hl8
  clear hl8 hlc8 hcm8 HAD HCUT hm9
  go_upto_region 15 with (first | (refine wpList_load_row (by rfl) 31 (.tmp 5) (by rfl) w.heap.size (by rfl) _ (cellsOf leaf).toArray (0, 0) _ HS.out.box Tryd.underlying31 (by rfl) HLFI.out ?_) | (refine wpList_store_row (by rfl) 31 _ _ (by rfl) w8.heap.size (cellsOf leaf).toArray (by rfl) (by rfl) 31 (cellsOf zs32).toArray (by exact heap_new _ _) HLFI.out (zsize HLF.out) (cellsOf_all _) ?_))
  obtain ⟨gd, hgd⟩ : ∃ gd, gd = w8.heap.size := ⟨_, rfl⟩
  have HLY := Lib.hid (show ∀ V : Obj, V = .cells (cellsOf zs32).toArray 31 (0, 0) → Brow ((w8.alloc V).setRow w8.heap.size (cellsOf leaf).toArray) w8.heap.size 31 leaf ∧ Below w8.heap.size w8 ((w8.alloc V).setRow w8.heap.size (cellsOf leaf).toArray) from fun V hV => by
    subst hV
    exact ⟨(Brow.new w8 31 zs32).setRow, ((Below.refl _ _).alloc (Nat.le_refl _) _).setRow (Nat.le_refl _) _⟩)
  refine gen_code (F := fun W => LW w g (n + 1) BL v9 R leaf gd (.slice a8 l c8) zs W ∧ Brow W gd 31 leaf) (by
    have h := HLY.out _ rfl
    rw [hgd]
    have hs := HS.out.step h.2
    refine ⟨⟨hs, OwnD.below HW8.out h.2 (Nat.le_refl _), ?_, ?_, ?_, ?_, h.1.lt⟩, h.1⟩
    · exact HS.out.box.lt
    · have := HS.out.fr.lt; omega
    · intro k hk; have := (OwnD.block HS.out.own k hk).2; omega
    · intro k hk; have := (OwnD.block HW8.out k hk).2; omega) ?_
  rintro w10 ⟨hs, ha⟩
  rw [← hgd]
  have HS := Lib.hid hs
  have HA := Lib.hid ha
  clear hs ha HLY HW8 hgd HLFI
  have HST := Lib.hid (show carryS 63 n zs leaf = R ∧ zs.length = ones n ∧ (∀ d ∈ zs, D32 d) ∧ n < 2 ^ 63 ∧ D32 leaf from ⟨HRE.out.symm, by rw [HZL.out, HL1E.out], HZD.out, Nat.lt_trans HN9.out (by decide), HLF.out⟩)
  clear HRE HL1E HON hself hselfl
  go_wp2_with fail
  go_loopw [10, 12] (fun wv kv wr => ∃ (f q : Nat) (ds : Ds) (top : List Nat) (vw : Value), wv = vw ∧ kv = .int .i64 (q : Int) ∧ f ≤ 63 ∧ q < 9223372036854775808 ∧ Hid (LW w g (n + 1) BL v9 R leaf gd vw ds wr) ∧ Hid (Brow wr gd 31 top) ∧ Hid (carryS f q ds top = R ∧ ds.length = ones q ∧ (∀ d ∈ ds, D32 d) ∧ q < 2 ^ f ∧ D32 top)) (fun _ kv _ => (intOf kv).toNat)
  case atStart => exact ⟨63, n, zs, leaf, _, rfl, rfl, by omega, by have := HN9.out; omega, HS, HA, HST⟩
  case round =>
    clear HS HA HST
    obtain ⟨f, q, ds, top, vw, rfl, rfl, hf63, hq63, HS, HA, HI⟩ := hrel
    have HTD := Lib.hid HI.out.2.2.2.2
    by_cases hodd : q % 2 = 1
    · have s1 : (q : Int).tmod 2 = 1 := by rw [Int.tmod_eq_emod_of_nonneg (by omega)]; omega
      have s2 : (q : Int).tdiv 2 = ((q / 2 : Nat) : Int) := by rw [Int.tdiv_eq_ediv_of_nonneg (by omega)]; omega
      obtain ⟨L, hL⟩ : ∃ L, L = ones (q / 2) := ⟨_, rfl⟩
      have hL1 : ds.length = L + 1 := by rw [HI.out.2.1, ones_odd hodd, hL]
      have hLm : L ≤ 63 := by rw [hL]; exact ones_le63 _ (by omega)
      obtain ⟨aw, n1, cw, rfl, hn1, hnc, hcmw, _, hrw⟩ := OwnD.form HS.out.wa HI.out.2.2.1
      obtain rfl : n1 = L + 1 := by omega
      obtain ⟨gb, go, rfl, _, _⟩ := hrw.at L (by omega)
      obtain ⟨s, hs⟩ : ∃ s, s = ds.getD L [] := ⟨_, rfl⟩
      have HSD := Lib.hid (show D32 s from by rw [hs]; exact D32.get HI.out.2.2.1 L (by omega))
      obtain ⟨f', rfl⟩ : ∃ f', f = f' + 1 := ⟨f - 1, by
        have := HI.out.2.2.2.1
        cases f with
        | zero => simp at this; omega
        | succ f => rfl⟩
      obtain ⟨N, hN⟩ : ∃ N, N = nodeS s top := ⟨_, rfl⟩
      have HND := Lib.hid (show D32 N from by rw [hN]; exact d32_sum _)
      have HNEXT := Lib.hid (show carryS f' (q / 2) (ds.take L) N = R ∧ (ds.take L).length = ones (q / 2) ∧ (∀ d ∈ ds.take L, D32 d) ∧ q / 2 < 2 ^ f' ∧ D32 N from by
        obtain ⟨e1, e2, e3, e4, e5⟩ := HI.out
        rw [carryS, if_pos hodd, hL1, Nat.add_sub_cancel, ← hs, ← hN] at e1
        refine ⟨e1, by rw [List.length_take, hL1, ← hL]; omega, d32_take e3 L, by rw [Nat.pow_succ] at e4; omega, HND.out⟩)
      have HNODE := Lib.hid (show ∀ W, Calls Tryd.prog 20 #[.agg (cellsOf s).toArray, .agg (cellsOf top).toArray] W (DigRet N W) from fun W => by rw [hN]; exact rnode_c s top W HSD.out HTD.out)
      have HDS := Lib.hid HI.out.2.2.1
      have HNI := Lib.hid (info32 dtR HND.out)
      have HSS := Lib.hid hs
      have HLS := Lib.hid (fun W (hW : LW w g (n + 1) BL v9 R leaf gd (.slice (some ⟨gb, go, none⟩) (L + 1) cw) ds W) => run_dload dtR W gb (go + L * 32) s HSD.out (by
        obtain ⟨a', n', c', he, hl', _, _, _, hr'⟩ := OwnD.form hW.wa HDS.out
        cases he
        obtain ⟨b', o', h1, _, h3⟩ := hr'.at L (by omega)
        simp only [Option.some.injEq, Addr.mk.injEq, and_true] at h1
        obtain ⟨rfl, rfl⟩ := h1
        rw [HSS.out]
        exact h3))
      have kH := fun W => run_dheadAt dtR W (some ⟨gb, go, none⟩) (L + 1) cw L (by omega)
      have hLi : ((L + 1 : Nat) : Int) - 1 = (L : Int) := by omega
      have hLi' : (L : Int) + 1 - 1 = (L : Int) := by omega
      have hwL : IntKind.i64.wrap (L : Int) = (L : Int) := by simp [IntKind.wrap, IntKind.bits, IntKind.signed]; omega
      have hq0 : 0 < q := by omega
      clear hs hN hL hrw HI hn1 hodd
      go_upto_region 18 with fail
      (try dsimp only [Act.put, List.setIfInBounds_toArray, List.set_cons_zero, List.set_cons_succ])
      have HS := Lib.hid HS.out.drew
      have HA := Lib.hid HA.out.drew
      refine anyH_begin (S := LW w g (n + 1) BL v9 R leaf gd (.slice (some ⟨gb, go, none⟩) (L + 1) cw) ds) (by kernel_rfl) ?_
      refine anyH_pureG 0 (d := 85) (op := .move (.tmp 10)) (gd := none) (.slice (some ⟨gb, go, none⟩) (L + 1) cw) (by rfl) (fun o ho => wanted_plain ho _) (by kernel_rfl) (by kernel_rfl) (by kernel_rfl) (fun _ _ _ h => h) (fun o ho W hW => by unfold execOp; simp only [ho]; go_simp) HS.out ?_
      simp only [Act.put, List.setIfInBounds_toArray, List.set_cons_zero, List.set_cons_succ]
      refine anyH_pureG 1 (d := 86) (op := .move (.tmp 10)) (gd := none) (.slice (some ⟨gb, go, none⟩) (L + 1) cw) (by rfl) (fun o ho => wanted_plain ho _) (by kernel_rfl) (by kernel_rfl) (by kernel_rfl) (fun _ _ _ h => h) (fun o ho W hW => by unfold execOp; simp only [ho]; go_simp) HS.out ?_
      simp only [Act.put, List.setIfInBounds_toArray, List.set_cons_zero, List.set_cons_succ]
      refine anyH_pureG 2 (d := 87) (op := .call { callee := .builtin .len, args := #[(.tmp 86)], argTypes := #[22] }) (gd := none) (.int .i64 ((L : Int) + 1)) (by rfl) (fun o ho => wanted_plain ho _) (by kernel_rfl) (by kernel_rfl) (by kernel_rfl) (fun _ _ _ h => h) (fun o ho W hW => by unfold execOp; simp only [ho]; go_simp) HS.out ?_
      simp only [Act.put, List.setIfInBounds_toArray, List.set_cons_zero, List.set_cons_succ]
      refine anyH_pureG 3 (d := 88) (op := .binOp .sub 3 (.tmp 87) (.const (.int .i64 1)) 3) (gd := none) (.int .i64 (L : Int)) (by rfl) (fun o ho => wanted_plain ho _) (by kernel_rfl) (by kernel_rfl) (by kernel_rfl) (fun _ _ _ h => h) (fun o ho W hW => by unfold execOp; simp only [ho]; go_simp) HS.out ?_
      simp only [Act.put, List.setIfInBounds_toArray, List.set_cons_zero, List.set_cons_succ]
      refine anyH_dindex dtR 4 (d := 89) (x := (.tmp 85)) (y := (.tmp 88)) gb go (L + 1) cw (L) (by omega) (by rfl) (by kernel_rfl) (by kernel_rfl) (by kernel_rfl) (fun _ _ _ h => h) (by rfl) (by rfl) HS.out ?_
      simp only [Act.put, List.setIfInBounds_toArray, List.set_cons_zero, List.set_cons_succ]
      refine anyH_loadG 5 (d := 90) (ty := 31) (x := (.tmp 89)) (gd := none) (p := .pointer (some ⟨gb, go + L * 32, none⟩)) (.agg (cellsOf s).toArray) (by rfl) (fun o ho => wanted_plain ho _) (by kernel_rfl) (by kernel_rfl) (by kernel_rfl) (fun _ _ _ h => h) (by rfl) HLS.out HS.out ?_
      simp only [Act.put, List.setIfInBounds_toArray, List.set_cons_zero, List.set_cons_succ]
      refine wpAnyH_all (rs := [6]) (by kernel_rfl) (by simp) ?_
      intro k' hk'; simp only [List.mem_cons, List.not_mem_nil, or_false] at hk'; subst hk'
      refine op_atL 6 (d := some 91) (op := .load 31 (.tmp 11)) (by rfl) ?_
      intro o0 hod hoo
      refine wp_load_run 31 (.tmp 11) hoo (.pointer (some ⟨gd, 0, none⟩)) (.agg (cellsOf top).toArray) (by rfl) (run_dload dtR _ gd 0 top HTD.out HA.out.range) ?_
      refine ⟨HS.out, ?_⟩
      rw [hod]
      clear hod hoo
      simp only [Act.put, List.setIfInBounds_toArray, List.set_cons_zero, List.set_cons_succ]
      refine anyH_callG 7 (d := some 92) (f := 20) (xs := #[(.tmp 90), (.tmp 91)]) (ts := #[31, 31]) (gd := none) (vs := #[.agg (cellsOf s).toArray, .agg (cellsOf top).toArray]) (by kernel_rfl) (by rfl) (fun o ho => wanted_plain ho _) (by go_simp) (by go_simp) (HNODE.out _) ?_
      rintro e91 w91 ⟨rfl, hb91⟩
      refine ⟨_, rfl, HS.out.step hb91, fun hS91 => ?_⟩
      have HS := Lib.hid hS91
      have HA := Lib.hid (HA.out.below hb91 HA.out.lt)
      clear hS91 hb91
      simp only [Act.put, List.setIfInBounds_toArray, List.set_cons_zero, List.set_cons_succ]
      refine wpAnyH_all (rs := [8]) (by kernel_rfl) (by simp) ?_
      intro k' hk'; simp only [List.mem_cons, List.not_mem_nil, or_false] at hk'; subst hk'
      refine op_atL 8 (d := none) (op := .store 31 (.tmp 11) (.tmp 92)) (by rfl) ?_
      intro o0 hod hoo
      refine wp_store_mid 31 (.tmp 11) (.tmp 92) hoo gd 0 (cellsOf N).toArray (by rfl) (by rfl) (HA.out.there _ (by rw [cellsOf_size, HND.out.1, HTD.out.1])) HNI.out (cellsOf_all _) ?_
      rw [hod, List.toList_toArray]
      have ho : Only gd w91 (w91.setCells gd 0 (cellsOf N)) := Only.setCells (cellsOf N) 0 (Only.refl gd _)
      have hs2 := HS.out.only ho
      refine ⟨hs2, ?_⟩
      have ha2 := HA.out.setAll (ys := N) (by rw [HND.out.1, HTD.out.1])
      refine gen_anyHL (F := fun W => LW w g (n + 1) BL v9 R leaf gd (.slice (some ⟨gb, go, none⟩) (L + 1) cw) ds W ∧ Brow W gd 31 N) ⟨hs2, ha2⟩ ?_
      rintro w92 ⟨hs3, ha3⟩
      clear hod hoo ho hs2 ha2 HS HA
      have HS := Lib.hid hs3
      have HA := Lib.hid ha3
      clear hs3 ha3
      simp only [Act.put]
      refine wpAnyH_done (by kernel_rfl) ?_ _
      go_wp2_with fail
      go_roundw
      case rel => exact ⟨f', q / 2, ds.take L, N, .slice (some ⟨gb, go, none⟩) L cw, rfl, by go_num, by omega, by omega, Lib.hid ⟨HS.out.lf, OwnD.head HS.out.wa HDS.out L (by omega), HS.out.n1, HS.out.n2, HS.out.n3, fun k hk => HS.out.n4 k hk, HS.out.glt⟩, HA, HNEXT⟩
      case measure => simp [intOf]; omega
    · have s1 : (q : Int).tmod 2 = 0 := by rw [Int.tmod_eq_emod_of_nonneg (by omega)]; omega
      have HEND := Lib.hid (show ds ++ [top] = R from by
        have h := HI.out.1
        cases f with
        | zero => exact h
        | succ f => rw [carryS, if_neg (by omega)] at h; exact h)
      obtain ⟨aw, n1, cw, rfl, hn1, hnc, hcmw, _, hrw⟩ := OwnD.form HS.out.wa HI.out.2.2.1
      have HLN := Lib.hid (show ds.length + 1 ≤ 4398046511104 from by
        have := ones_le63 q (by omega)
        rw [HI.out.2.1]; omega)
      have HTI := Lib.hid (info32 dtR HTD.out)
      have HLD := Lib.hid (run_dload dtR wr gd 0 top HTD.out HA.out.range)
      obtain ⟨Lr, hLr⟩ : ∃ Lr, R.length = Lr + 1 := ⟨R.length - 1, by have := HRL2.out.1; omega⟩
      have hLr63 : Lr ≤ 63 := by have := HRL2.out.2; omega
      have HLR := Lib.hid hLr
      have HTOP := Lib.hid (show R.getD Lr [] = top from by
        have h1 : ds.length = Lr := by have := congrArg List.length HEND.out; simp at this; omega
        rw [← HEND.out, List.getD_eq_getElem?_getD, List.getElem?_append_right (by omega), h1, Nat.sub_self]
        rfl)
      have hwlt := HS.out.lf.box.lt
      clear hrw hn1 hLr HI hodd
      go_upto_region 21 with (first | (refine wpList_loadg 31 (.tmp 11) (by rfl) (by rfl) (.pointer (some ⟨gd, 0, none⟩)) (by rfl) (.agg (cellsOf top).toArray) HLD.out ?_) | (refine wpList_dlay dtR (by rfl) (.tmp 99) (by rfl) wr.heap.size rfl (some 100) (by rfl) top HTD.out (by rfl) ?_) | (at_builtin; (refine wpList_dpush_at dtR (by rfl) (.tmp 98) (.tmp 100) (by rfl) (w.heap.size + 1) _ ds top HTD.out (by rfl) HS.out.wa hwlt (by rfl) HLN.out ?_); intro v12 w12 hown12 hkeep12 hx12 hat12; obtain ⟨a12, l12, c12, rfl, hl12, hlc12, hcm12, hnil12, hr12⟩ := OwnD.form hown12 (by rw [HEND.out]; exact HRD.out); have HS12 := Lib.hid (LW.pushed HS.out hown12 hkeep12 hx12 hat12); have HA12 := Lib.hid (show Brow w12 gd 31 top from (hx12 gd HA.out.lt (fun e => HS.out.n4 gd e rfl)).trans HA.out); clear hown12 hkeep12 hx12 hat12))
      rw [HEND.out] at hl12 hr12 HS12
      obtain rfl : l12 = Lr + 1 := by rw [← hl12]; exact HLR.out
      obtain ⟨gb, go, rfl, _, _⟩ := hr12.at Lr (by omega)
      have hLi : ((Lr + 1 : Nat) : Int) - 1 = (Lr : Int) := by omega
      have hLi' : (Lr : Int) + 1 - 1 = (Lr : Int) := by omega
      have hwL : IntKind.i64.wrap (Lr : Int) = (Lr : Int) := by simp [IntKind.wrap, IntKind.bits, IntKind.signed]; omega
      have HLS := Lib.hid (fun (j : Nat) (hj : j < Lr + 1) W (hW : LW w g (n + 1) BL v9 R leaf gd (.slice (some ⟨gb, go, none⟩) (Lr + 1) c12) R W) => run_dload dtR W gb (go + j * 32) (R.getD j []) (D32.get HRD.out j (by rw [HLR.out]; exact hj)) (by
        obtain ⟨a', n', c', he, hl', _, _, _, hr'⟩ := OwnD.form hW.wa HRD.out
        cases he
        obtain ⟨b', o', h1, _, h3⟩ := hr'.at j hj
        simp only [Option.some.injEq, Addr.mk.injEq, and_true] at h1
        obtain ⟨rfl, rfl⟩ := h1
        exact h3))
      have hix := fun W => run_dindex dtR W gb go (Lr + 1) c12 Lr (by omega)
      have HLT := Lib.hid (show (Instr.loadAt 31 (.pointer (some ⟨gb, go + Lr * 32, none⟩))).run Tryd.prog w12 = .ok (.agg (cellsOf top).toArray) w12 from by rw [← HTOP.out]; exact HLS.out Lr (by omega) w12 HS12.out)
      clear hl12 hr12 HS HA HLD hlc12 hcm12 hnil12 HEND
      go_upto_region 22 with (first | (refine wpList_loadg 31 (.tmp 106) (by rfl) (by rfl) (.pointer (some ⟨gb, go + Lr * 32, none⟩)) (by rfl) (.agg (cellsOf top).toArray) HLT.out ?_) | (refine wpList_store_row (by rfl) 31 _ _ (by rfl) gd (cellsOf top).toArray (by rfl) (by rfl) 31 (cellsOf top).toArray HA12.out HTI.out rfl (cellsOf_all _) ?_))
      refine gen_code (F := fun W => LW w g (n + 1) BL v9 R leaf gd (.slice (some ⟨gb, go, none⟩) (Lr + 1) c12) R W ∧ Brow W gd 31 (foldS (R.drop Lr))) (by
        have ho : Only gd w12 (w12.setRow gd (cellsOf top).toArray) := (Only.refl _ _).setRow _
        refine ⟨HS12.out.only ho, ?_⟩
        rw [foldS_last R Lr HLR.out, HTOP.out]
        exact HA12.out.setRow) ?_
      rintro w13 ⟨hs, ha⟩
      have HS := Lib.hid hs
      have HA := Lib.hid ha
      have hLk : ((Lr + 1 : Nat) : Int) - 2 = (Lr : Int) - 1 := by omega
      have hLk' : (Lr : Int) + 1 - 2 = (Lr : Int) - 1 := by omega
      have hwk : IntKind.i64.wrap ((Lr : Int) - 1) = (Lr : Int) - 1 := by simp [IntKind.wrap, IntKind.bits, IntKind.signed]; omega
      clear hs ha HS12 HA12 HLT hLi hLi' hix HTD HTI HLN HTOP
      go_wp2_with fail
      try simp only [hLk']
      go_loopw [13] (fun kv wr => ∃ j : Nat, j ≤ Lr ∧ kv = .int .i64 ((j : Int) - 1) ∧ Hid (LW w g (n + 1) BL v9 R leaf gd (.slice (some ⟨gb, go, none⟩) (Lr + 1) c12) R wr) ∧ Hid (Brow wr gd 31 (foldS (R.drop j)))) (fun kv _ => (intOf kv + 1).toNat)
      case atStart => exact ⟨Lr, Nat.le_refl _, rfl, HS, HA⟩
      case round =>
        clear HS HA hLk hLk' hwk
        obtain ⟨j, hj, rfl, HS, HA⟩ := hrel
        obtain ⟨acc, hacc⟩ : ∃ acc, acc = foldS (R.drop j) := ⟨_, rfl⟩
        have HTD := Lib.hid (show D32 acc from by rw [hacc]; exact foldS_d32 _ (d32_drop HRD.out _))
        rw [← hacc] at HA
        cases j with
        | zero =>
          have HAE := Lib.hid (show acc = foldS R from by rw [hacc, List.drop_zero])
          have HR64 := Lib.hid (show R.length ≤ 1000 from by have := HRL2.out.2; omega)
          have HSZ := Lib.hid (show ∀ W, LF w g (n + 1) BL v9 R leaf W → Calls Tryd.prog 10 #[.pointer (some ⟨g, 0, none⟩)] W (fun e w' => e = .returned (.int .i64 ((n : Int) + 1)) ∧ W = w') from fun W hW => by
            have := fsize_c g (n + 1) v9 W hW.fr
            rwa [show ((n + 1 : Nat) : Int) = (n : Int) + 1 by omega] at this)
          have HTP := Lib.hid (show ∀ W, LF w g (n + 1) BL v9 R leaf W → Calls Tryd.prog 9 #[.pointer (some ⟨g, 0, none⟩)] W (RetDs 32 R W) from fun W hW => tops_c g (n + 1) BL v9 R W hW.fr hW.own HRD.out HR64.out)
          have HRT := Lib.hid (show ∀ W, LF w g (n + 1) BL v9 R leaf W → Calls Tryd.prog 11 #[.pointer (some ⟨g, 0, none⟩)] W (DigRet acc W) from fun W hW => by
            rw [HAE.out]
            exact froot_c g (n + 1) BL v9 R W hW.fr hW.own HRD.out HRL2.out.1 HR64.out (by omega) (HT.out.below hW.bel hpos))
          have HEE := Lib.hid (show ∀ W, (Op.equalIn 10000 32 (.agg (cellsOf acc).toArray) (.agg (cellsOf acc).toArray)).run Tryd.prog W = .ok true W from fun W => by
            have := eq_dig 32 32 Tryd.underlying32 W acc acc HTD.out.1 HTD.out.1 HTD.out.2 HTD.out.2
            simpa using this)
          have HGT := Lib.hid (show Tryd.prog.eqGuardType Tryd.prog.depth 32 = false by kernel_rfl)
          have hwn : IntKind.i64.wrap ((n : Int) + 1) = (n : Int) + 1 := by have := HN9.out; simp [IntKind.wrap, IntKind.bits, IntKind.signed]; omega
          clear hacc HLS
          go_wp2_with fail
          (try dsimp only [Act.put, List.setIfInBounds_toArray, List.set_cons_zero, List.set_cons_succ])
          have HS := Lib.hid (show (fun W => LW w g (n + 1) BL v9 R leaf gd (.slice (some ⟨gb, go, none⟩) (Lr + 1) c12) R W ∧ Brow W gd 31 acc) wr.drew from ⟨HS.out.drew, HA.out.drew⟩)
          clear HA
          refine anyH_begin (S := fun W => LW w g (n + 1) BL v9 R leaf gd (.slice (some ⟨gb, go, none⟩) (Lr + 1) c12) R W ∧ Brow W gd 31 acc) (by kernel_rfl) ?_
          refine anyH_pureG 0 (d := 121) (op := .move (.tmp 7)) (gd := none) (.pointer (some ⟨g, 0, none⟩)) (by rfl) (fun o ho => wanted_plain ho _) (by kernel_rfl) (by kernel_rfl) (by kernel_rfl) (fun _ _ _ h => h) (fun o ho W hW => by unfold execOp; simp only [ho]; go_simp) HS.out ?_
          simp only [Act.put, List.setIfInBounds_toArray, List.set_cons_zero, List.set_cons_succ]
          refine anyH_pureG 2 (d := 123) (op := .move (.tmp 0)) (gd := none) (.int .i64 (n : Int)) (by rfl) (fun o ho => wanted_plain ho _) (by kernel_rfl) (by kernel_rfl) (by kernel_rfl) (fun _ _ _ h => h) (fun o ho W hW => by unfold execOp; simp only [ho]; go_simp) HS.out ?_
          simp only [Act.put, List.setIfInBounds_toArray, List.set_cons_zero, List.set_cons_succ]
          refine anyH_pureG 3 (d := 124) (op := .binOp .add 3 (.tmp 123) (.const (.int .i64 1)) 3) (gd := none) (.int .i64 ((n : Int) + 1)) (by rfl) (fun o ho => wanted_plain ho _) (by kernel_rfl) (by kernel_rfl) (by kernel_rfl) (fun _ _ _ h => h) (fun o ho W hW => by unfold execOp; simp only [ho]; go_simp) HS.out ?_
          simp only [Act.put, List.setIfInBounds_toArray, List.set_cons_zero, List.set_cons_succ]
          refine anyH_callG 1 (d := some 122) (f := 10) (xs := #[(.tmp 121)]) (ts := #[26]) (gd := none) (vs := #[.pointer (some ⟨g, 0, none⟩)]) (by kernel_rfl) (by rfl) (fun o ho => wanted_plain ho _) (by go_simp) (by go_simp) (HSZ.out _ HS.out.1.lf) ?_
          rintro e71 w71 ⟨rfl, rfl⟩
          refine ⟨_, rfl, HS.out, fun hS71 => ?_⟩
          simp only [Act.put, List.setIfInBounds_toArray, List.set_cons_zero, List.set_cons_succ]
          refine anyH_pureG 4 (d := 125) (op := .binOp .eql 3 (.tmp 122) (.tmp 124) 3) (gd := none) (.bool true) (by rfl) (fun o ho => wanted_plain ho _) (by kernel_rfl) (by kernel_rfl) (by kernel_rfl) (fun _ _ _ h => h) (fun o ho W hW => by unfold execOp; simp only [ho]; go_simp) HS.out ?_
          simp only [Act.put, List.setIfInBounds_toArray, List.set_cons_zero, List.set_cons_succ]
          refine anyH_pureG 5 (d := 126) (op := .move (.tmp 125)) (gd := none) (.bool true) (by rfl) (fun o ho => wanted_plain ho _) (by kernel_rfl) (by kernel_rfl) (by kernel_rfl) (fun _ _ _ h => h) (fun o ho W hW => by unfold execOp; simp only [ho]; go_simp) HS.out ?_
          simp only [Act.put, List.setIfInBounds_toArray, List.set_cons_zero, List.set_cons_succ]
          refine anyH_pureG 6 (d := 127) (op := .move (.tmp 7)) (gd := some (5, true)) (.pointer (some ⟨g, 0, none⟩)) (by rfl) (fun o ho => by simp only [Region.wanted, ho]; rfl) (by kernel_rfl) (by kernel_rfl) (by kernel_rfl) (fun _ _ _ h => h) (fun o ho W hW => by unfold execOp; simp only [ho]; go_simp) HS.out ?_
          simp only [Act.put, List.setIfInBounds_toArray, List.set_cons_zero, List.set_cons_succ]
          refine anyH_pureG 9 (d := 130) (op := .move (.tmp 10)) (gd := some (5, true)) (.slice (some ⟨gb, go, none⟩) (Lr + 1) c12) (by rfl) (fun o ho => by simp only [Region.wanted, ho]; rfl) (by kernel_rfl) (by kernel_rfl) (by kernel_rfl) (fun _ _ _ h => h) (fun o ho W hW => by unfold execOp; simp only [ho]; go_simp) HS.out ?_
          simp only [Act.put, List.setIfInBounds_toArray, List.set_cons_zero, List.set_cons_succ]
          refine anyH_callG 7 (d := some 128) (f := 9) (xs := #[(.tmp 127)]) (ts := #[26]) (gd := some (5, true)) (vs := #[.pointer (some ⟨g, 0, none⟩)]) (by kernel_rfl) (by rfl) (fun o ho => by simp only [Region.wanted, ho]; rfl) (by go_simp) (by go_simp) (HTP.out _ HS.out.1.lf) ?_
          rintro e6 w6 ⟨v6, rfl, ho6, hb6⟩
          obtain ⟨a6, l6, c6, rfl, hl6, hlc6, hcm6, hnil6, hr6⟩ := OwnD.form ho6 HRD.out
          obtain rfl : l6 = Lr + 1 := by rw [← hl6]; exact HLR.out
          have HR6 := Lib.hid hr6
          refine ⟨_, rfl, ⟨HS.out.1.step hb6, HS.out.2.below hb6 HS.out.2.lt⟩, fun hS6 => ?_⟩
          have HS := Lib.hid hS6
          clear hS6 hb6
          clear ho6 hl6 hlc6 hcm6 hnil6 hr6
          simp only [Act.put, List.setIfInBounds_toArray, List.set_cons_zero, List.set_cons_succ]
          refine anyH_callG 8 (d := some 129) (f := 14) (xs := #[(.tmp 128)]) (ts := #[28]) (gd := some (5, true)) (vs := #[.slice a6 (Lr + 1) c6]) (by kernel_rfl) (by rfl) (fun o ho => by simp only [Region.wanted, ho]; rfl) (by go_simp) (by go_simp) (from_c (Lr + 1) R a6 c6 _ HR6.out (by omega)) ?_
          rintro e5 w5 ⟨v5, rfl, ho5, hb5⟩
          obtain ⟨a5, l5, c5, rfl, hl5, hlc5, hcm5, hnil5, hr5⟩ := OwnD.form ho5 HRD.out
          obtain rfl : l5 = Lr + 1 := by rw [← hl5]; exact HLR.out
          have HR5 := Lib.hid hr5
          refine ⟨_, rfl, ⟨HS.out.1.step hb5, HS.out.2.below hb5 HS.out.2.lt⟩, fun hS5 => ?_⟩
          have HS := Lib.hid hS5
          clear hS5 hb5
          clear ho5 hl5 hlc5 hcm5 hnil5 hr5
          simp only [Act.put, List.setIfInBounds_toArray, List.set_cons_zero, List.set_cons_succ]
          refine anyH_callG 10 (d := some 131) (f := 13) (xs := #[(.tmp 129), (.tmp 130)]) (ts := #[22, 22]) (gd := some (5, true)) (vs := #[.slice a5 (Lr + 1) c5, .slice (some ⟨gb, go, none⟩) (Lr + 1) c12]) (by kernel_rfl) (by rfl) (fun o ho => by simp only [Region.wanted, ho]; rfl) (by go_simp) (by go_simp) (dsame_c (Lr + 1) (Lr + 1) (by omega) a5 (some ⟨gb, go, none⟩) c5 c12 R R _ HR5.out (by obtain ⟨a', n', c', he, _, _, _, _, hr'⟩ := OwnD.form HS.out.1.wa HRD.out; cases he; exact hr')) ?_
          rintro e4 w4 ⟨rfl, hb4⟩
          refine ⟨_, rfl, ⟨HS.out.1.step hb4, HS.out.2.below hb4 HS.out.2.lt⟩, fun hS4 => ?_⟩
          have HS := Lib.hid hS4
          clear hS4 hb4
          simp only [decide_true]
          simp only [Act.put, List.setIfInBounds_toArray, List.set_cons_zero, List.set_cons_succ]
          refine anyH_pureG 11 (d := 132) (op := .pick (.tmp 126) (.tmp 131) (.const (.bool false))) (gd := none) (.bool true) (by rfl) (fun o ho => wanted_plain ho _) (by kernel_rfl) (by kernel_rfl) (by kernel_rfl) (fun _ _ _ h => h) (fun o ho W hW => by unfold execOp; simp only [ho]; go_simp) HS.out ?_
          simp only [Act.put, List.setIfInBounds_toArray, List.set_cons_zero, List.set_cons_succ]
          refine anyH_pureG 12 (d := 133) (op := .move (.tmp 132)) (gd := none) (.bool true) (by rfl) (fun o ho => wanted_plain ho _) (by kernel_rfl) (by kernel_rfl) (by kernel_rfl) (fun _ _ _ h => h) (fun o ho W hW => by unfold execOp; simp only [ho]; go_simp) HS.out ?_
          simp only [Act.put, List.setIfInBounds_toArray, List.set_cons_zero, List.set_cons_succ]
          refine anyH_pureG 13 (d := 134) (op := .move (.tmp 7)) (gd := some (12, true)) (.pointer (some ⟨g, 0, none⟩)) (by rfl) (fun o ho => by simp only [Region.wanted, ho]; rfl) (by kernel_rfl) (by kernel_rfl) (by kernel_rfl) (fun _ _ _ h => h) (fun o ho W hW => by unfold execOp; simp only [ho]; go_simp) HS.out ?_
          simp only [Act.put, List.setIfInBounds_toArray, List.set_cons_zero, List.set_cons_succ]
          refine anyH_loadG 15 (d := 136) (ty := 31) (x := (.tmp 11)) (gd := some (12, true)) (p := .pointer (some ⟨gd, 0, none⟩)) (.agg (cellsOf acc).toArray) (by rfl) (fun o ho => by simp only [Region.wanted, ho]; rfl) (by kernel_rfl) (by kernel_rfl) (by kernel_rfl) (fun _ _ _ h => h) (by rfl) (fun W hW => run_dload dtR W gd 0 acc HTD.out hW.2.range) HS.out ?_
          simp only [Act.put, List.setIfInBounds_toArray, List.set_cons_zero, List.set_cons_succ]
          refine anyH_callG 14 (d := some 135) (f := 11) (xs := #[(.tmp 134)]) (ts := #[26]) (gd := some (12, true)) (vs := #[.pointer (some ⟨g, 0, none⟩)]) (by kernel_rfl) (by rfl) (fun o ho => by simp only [Region.wanted, ho]; rfl) (by go_simp) (by go_simp) (HRT.out _ HS.out.1.lf) ?_
          rintro e3 w3 ⟨rfl, hb3⟩
          refine ⟨_, rfl, ⟨HS.out.1.step hb3, HS.out.2.below hb3 HS.out.2.lt⟩, fun hS3 => ?_⟩
          have HS := Lib.hid hS3
          clear hS3 hb3
          simp only [Act.put, List.setIfInBounds_toArray, List.set_cons_zero, List.set_cons_succ]
          refine anyH_eqG 16 (d := 137) (t := 32) (t' := 32) (x := (.tmp 135)) (y := (.tmp 136)) (gd := some (12, true)) ((cellsOf acc).toArray) ((cellsOf acc).toArray) true (by rfl) (fun o ho => by simp only [Region.wanted, ho]; rfl) (by kernel_rfl) (by kernel_rfl) (by kernel_rfl) (fun _ _ _ h => h) (by rfl) (by rfl) HGT.out (fun W => HEE.out W) HS.out ?_
          simp only [Act.put, List.setIfInBounds_toArray, List.set_cons_zero, List.set_cons_succ]
          refine anyH_pureG 17 (d := 138) (op := .pick (.tmp 133) (.tmp 137) (.const (.bool false))) (gd := none) (.bool true) (by rfl) (fun o ho => wanted_plain ho _) (by kernel_rfl) (by kernel_rfl) (by kernel_rfl) (fun _ _ _ h => h) (fun o ho W hW => by unfold execOp; simp only [ho]; go_simp) HS.out ?_
          simp only [Act.put, List.setIfInBounds_toArray, List.set_cons_zero, List.set_cons_succ]
          refine anyH_pureG 18 (d := 6) (op := .assign (.tmp 138)) (gd := none) (.bool true) (by rfl) (fun o ho => wanted_plain ho _) (by kernel_rfl) (by kernel_rfl) (by kernel_rfl) (fun _ _ _ h => h) (fun o ho W hW => by unfold execOp; simp only [ho]; go_simp) HS.out ?_
          simp only [Act.put, List.setIfInBounds_toArray, List.set_cons_zero, List.set_cons_succ]
          refine wpAnyH_done (by kernel_rfl) ?_ _
          go_wp2_with fail
          go_ret
          exact ⟨rfl, HS.out.1.lf.bel⟩
        | succ j =>
          obtain ⟨s, hs⟩ : ∃ s, s = R.getD j [] := ⟨_, rfl⟩
          have HSD := Lib.hid (show D32 s from by rw [hs]; exact D32.get HRD.out j (by rw [HLR.out]; omega))
          obtain ⟨N, hN⟩ : ∃ N, N = nodeS s acc := ⟨_, rfl⟩
          have HND := Lib.hid (show D32 N from by rw [hN]; exact d32_sum _)
          have HNE := Lib.hid (show N = foldS (R.drop j) from by rw [hN, hs, hacc]; exact (foldS_step R j (by rw [HLR.out]; omega)).symm)
          have HNODE := Lib.hid (show ∀ W, Calls Tryd.prog 20 #[.agg (cellsOf s).toArray, .agg (cellsOf acc).toArray] W (DigRet N W) from fun W => by rw [hN]; exact rnode_c s acc W HSD.out HTD.out)
          have HNI := Lib.hid (info32 dtR HND.out)
          have HLS := Lib.hid (fun W hW => (by have h := HLS.out j (by omega) W hW; rw [← hs] at h; exact h : (Instr.loadAt 31 (.pointer (some ⟨gb, go + j * 32, none⟩))).run Tryd.prog W = .ok (.agg (cellsOf s).toArray) W))
          have e1 : ((j + 1 : Nat) : Int) - 1 = (j : Int) := by omega
          rw [e1]
          clear hacc hs hN e1
          go_upto_region 25 with fail
          (try dsimp only [Act.put, List.setIfInBounds_toArray, List.set_cons_zero, List.set_cons_succ])
          have HS := Lib.hid HS.out.drew
          have HA := Lib.hid HA.out.drew
          refine anyH_begin (S := LW w g (n + 1) BL v9 R leaf gd (.slice (some ⟨gb, go, none⟩) (Lr + 1) c12) R) (by kernel_rfl) ?_
          refine anyH_pureG 0 (d := 115) (op := .move (.tmp 10)) (gd := none) (.slice (some ⟨gb, go, none⟩) (Lr + 1) c12) (by rfl) (fun o ho => wanted_plain ho _) (by kernel_rfl) (by kernel_rfl) (by kernel_rfl) (fun _ _ _ h => h) (fun o ho W hW => by unfold execOp; simp only [ho]; go_simp) HS.out ?_
          simp only [Act.put, List.setIfInBounds_toArray, List.set_cons_zero, List.set_cons_succ]
          refine anyH_pureG 1 (d := 116) (op := .move (.tmp 13)) (gd := none) (.int .i64 (j : Int)) (by rfl) (fun o ho => wanted_plain ho _) (by kernel_rfl) (by kernel_rfl) (by kernel_rfl) (fun _ _ _ h => h) (fun o ho W hW => by unfold execOp; simp only [ho]; go_simp) HS.out ?_
          simp only [Act.put, List.setIfInBounds_toArray, List.set_cons_zero, List.set_cons_succ]
          refine anyH_dindex dtR 2 (d := 117) (x := (.tmp 115)) (y := (.tmp 116)) gb go (Lr + 1) c12 (j) (by omega) (by rfl) (by kernel_rfl) (by kernel_rfl) (by kernel_rfl) (fun _ _ _ h => h) (by rfl) (by rfl) HS.out ?_
          simp only [Act.put, List.setIfInBounds_toArray, List.set_cons_zero, List.set_cons_succ]
          refine anyH_loadG 3 (d := 118) (ty := 31) (x := (.tmp 117)) (gd := none) (p := .pointer (some ⟨gb, go + j * 32, none⟩)) (.agg (cellsOf s).toArray) (by rfl) (fun o ho => wanted_plain ho _) (by kernel_rfl) (by kernel_rfl) (by kernel_rfl) (fun _ _ _ h => h) (by rfl) HLS.out HS.out ?_
          simp only [Act.put, List.setIfInBounds_toArray, List.set_cons_zero, List.set_cons_succ]
          refine wpAnyH_all (rs := [4]) (by kernel_rfl) (by simp) ?_
          intro k' hk'; simp only [List.mem_cons, List.not_mem_nil, or_false] at hk'; subst hk'
          refine op_atL 4 (d := some 119) (op := .load 31 (.tmp 11)) (by rfl) ?_
          intro o0 hod hoo
          refine wp_load_run 31 (.tmp 11) hoo (.pointer (some ⟨gd, 0, none⟩)) (.agg (cellsOf acc).toArray) (by rfl) (run_dload dtR _ gd 0 acc HTD.out HA.out.range) ?_
          refine ⟨HS.out, ?_⟩
          rw [hod]
          clear hod hoo
          simp only [Act.put, List.setIfInBounds_toArray, List.set_cons_zero, List.set_cons_succ]
          refine anyH_callG 5 (d := some 120) (f := 20) (xs := #[(.tmp 118), (.tmp 119)]) (ts := #[31, 31]) (gd := none) (vs := #[.agg (cellsOf s).toArray, .agg (cellsOf acc).toArray]) (by kernel_rfl) (by rfl) (fun o ho => wanted_plain ho _) (by go_simp) (by go_simp) (HNODE.out _) ?_
          rintro e91 w91 ⟨rfl, hb91⟩
          refine ⟨_, rfl, HS.out.step hb91, fun hS91 => ?_⟩
          have HS := Lib.hid hS91
          have HA := Lib.hid (HA.out.below hb91 HA.out.lt)
          clear hS91 hb91
          simp only [Act.put, List.setIfInBounds_toArray, List.set_cons_zero, List.set_cons_succ]
          refine wpAnyH_all (rs := [6]) (by kernel_rfl) (by simp) ?_
          intro k' hk'; simp only [List.mem_cons, List.not_mem_nil, or_false] at hk'; subst hk'
          refine op_atL 6 (d := none) (op := .store 31 (.tmp 11) (.tmp 120)) (by rfl) ?_
          intro o0 hod hoo
          refine wp_store_mid 31 (.tmp 11) (.tmp 120) hoo gd 0 (cellsOf N).toArray (by rfl) (by rfl) (HA.out.there _ (by rw [cellsOf_size, HND.out.1, HTD.out.1])) HNI.out (cellsOf_all _) ?_
          rw [hod, List.toList_toArray]
          have ho : Only gd w91 (w91.setCells gd 0 (cellsOf N)) := Only.setCells (cellsOf N) 0 (Only.refl gd _)
          have hs2 := HS.out.only ho
          refine ⟨hs2, ?_⟩
          have ha2 := HA.out.setAll (ys := N) (by rw [HND.out.1, HTD.out.1])
          refine gen_anyHL (F := fun W => LW w g (n + 1) BL v9 R leaf gd (.slice (some ⟨gb, go, none⟩) (Lr + 1) c12) R W ∧ Brow W gd 31 N) ⟨hs2, ha2⟩ ?_
          rintro w92 ⟨hs3, ha3⟩
          clear hod hoo ho hs2 ha2 HS HA
          have HS := Lib.hid hs3
          have HA := Lib.hid ha3
          clear hs3 ha3
          simp only [Act.put]
          refine wpAnyH_done (by kernel_rfl) ?_ _
          go_wp2_with fail
          go_roundw
          case rel => exact ⟨j, by omega, by go_num, HS, by rw [← HNE.out]; exact HA⟩
          case measure => first | (simp [intOf]; done) | (simp [intOf]; omega)
end Go.Proofs.YtlnblfdddellmaaDoor
