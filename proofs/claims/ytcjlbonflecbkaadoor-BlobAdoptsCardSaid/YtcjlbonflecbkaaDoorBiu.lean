/-
  The walk over BlobAdopts.
-/
import Derived.Test.YtcjlbonflecbkaaDoorBir
namespace Go.Proofs.YtcjlbonflecbkaaDoor
open Go.RowKit
set_option linter.unusedVariables false
theorem two_new (w : World) (O O' : Obj) : ((w.alloc O).alloc O').heap[w.heap.size]? = some O ∧ ((w.alloc O).alloc O').heap[w.heap.size + 1]? = some O' := by
  have h1 : (w.alloc O).heap.size = w.heap.size + 1 := by simp
  have q : Below (w.alloc O).heap.size (w.alloc O) ((w.alloc O).alloc O') := (Below.refl _ _).alloc (Nat.le_refl _) _
  exact ⟨(q.block w.heap.size (by omega)).trans (heap_new w O), by have := heap_new (w.alloc O) O'; rwa [h1] at this⟩
theorem exec_loadD {X : Nat} {ds : List Nat} {W : World} (hb : Brow W X 37 ds) (hd : D32 ds) {A : Act} {x : Operand} (hx : A.eval x = .pointer (some ⟨X, 0, none⟩)) (o : Oper) (ho : o.op = .load 37 x) : (execOp A.eval o).run Tryd.prog W = .ok (.value (.agg (cellsOf ds).toArray)) W := by
  unfold execOp
  simp only [ho, hx, run_loadAt_mid W X 0 37 (cellsOf ds) _ hb.range Tryd.underlying37 rfl (by rw [cellsOf_length, hd.1]; exact info_dig), Sem.run_bind, Result.andThen_ok, Sem.run_pure]
theorem exec_neqD {xs ys : Array Value} {b : Bool} (hm : Tryd.prog.eqGuardType Tryd.prog.depth 37 = false) (hrun : ∀ W, (Op.equalIn 10000 37 (.agg xs) (.agg ys)).run Tryd.prog W = .ok b W) {A : Act} {x y : Operand} (hx : A.eval x = .agg xs) (hy : A.eval y = .agg ys) (o : Oper) (ho : o.op = .binOp .neq 37 x y 37) (W : World) : (execOp A.eval o).run Tryd.prog W = .ok (.value (.bool !b)) W := by
  unfold execOp
  simp only [ho, hx, hy, Sem.run_bind, run_eqGuard_agg W .neq 37 x y xs ys hm, run_neq_struct, hrun W, Result.andThen_ok, Sem.run_pure]
theorem Bs.to {X : Nat → Prop} {B d sb N M : Nat} {A A' : Ad} {w w' : World} (h : Bs X B d sb N A w) (h1 : Dx X B d M A' w') (hk : KpD X w w') : Bs X B d sb M A' w' := ⟨h1, h.sx, (World.cell?_of_block (hk sb h.sx)).trans h.st⟩
theorem Bs.with2 {X : Nat → Prop} {B d sb N : Nat} {A : Ad} {w w' : World} (h : Bs X B d sb N A w) (hb : Below w.heap.size w w') (g k : Nat) (hg : w.heap.size ≤ g) (hk : w.heap.size ≤ k) (hl : g < w'.heap.size) (hm : k < w'.heap.size) : Bs (fun j => X j ∨ j = g ∨ j = k) B d sb N A w' :=
  ⟨h.dx.belowY hb (fun j hj => hj.imp id fun e => by omega) (fun j hj => by
    rcases hj with hj | rfl | rfl
    · exact Nat.lt_of_lt_of_le (h.dx.lt j hj) hb.size
    · exact hl
    · exact hm), .inl h.sx, (hb.cell (p := ⟨sb, 0, none⟩) (h.dx.lt sb h.sx)).trans h.st⟩
set_option maxRecDepth 100000 in
set_option maxHeartbeats 8000000 in
theorem badopts_c (a0 : Option Addr) (len0 cap0 : Nat) (z0 : List Nat) (a1 : Option Addr) (len1 cap1 : Nat) (z1 : List Nat) (there : Bool) (w : World) (r0 : BytesIn w a0 len0 cap0 z0) (r1 : BytesIn w a1 len1 cap1 z1) (ht : Tab w) :
    Calls Tryd.prog 5 #[.slice a0 len0 cap0, .slice a1 len1 cap1, .bool there] w fun e w' => e = .returned (.bool true) ∧ Below w.heap.size w w' := by
  obtain ⟨hr, hnil, hlc, hcm⟩ := r0
  obtain ⟨hr1, hnil1, hlc1, hcm1⟩ := r1
  obtain ⟨ds, hds⟩ : ∃ ds, Sha.sum z0 = ds := ⟨_, rfl⟩
  obtain ⟨dt, hdt⟩ : ∃ dt, Sha.sum z1 = dt := ⟨_, rfl⟩
  have hD : D32 ds := by rw [← hds]; exact ⟨sum_len _, sum_byte _⟩
  have hE : D32 dt := by rw [← hdt]; exact ⟨sum_len _, sum_byte _⟩
  have HDS := Lib.hid hds
  have HDT := Lib.hid hdt
  have HD32 := Lib.hid hD
  have HE32 := Lib.hid hE
  have HT := Lib.hid ht
  have HR := Lib.hid hr
  have HR1 := Lib.hid hr1
  have HNIL := Lib.hid hnil
  have HLC := Lib.hid (And.intro hlc (And.intro hcm (And.intro hlc1 hcm1)))
  have HD := Lib.hid (dnew_c 2097152 w (by omega) (by omega))
  have HI32ds := Lib.hid (show (Tryd.prog.info? 37).map (·.size) = some (cellsOf ds).toArray.size from by rw [cellsOf_size, hD.1]; exact info_dig)
  have HI32dt := Lib.hid (show (Tryd.prog.info? 37).map (·.size) = some (cellsOf dt).toArray.size from by rw [cellsOf_size, hE.1]; exact info_dig)
  have HSZds := Lib.hid (show (cellsOf zs32).toArray.size = (cellsOf ds).toArray.size from by rw [cellsOf_size, cellsOf_size, zs32_len, hD.1])
  have HSZdt := Lib.hid (show (cellsOf zs32).toArray.size = (cellsOf dt).toArray.size from by rw [cellsOf_size, cellsOf_size, zs32_len, hE.1])
  have HGT := Lib.hid (show Tryd.prog.eqGuardType Tryd.prog.depth 37 = false from by kernel_rfl)
  have HEQ := Lib.hid (fun W => show (Op.equalIn 10000 37 (.agg (cellsOf ds).toArray) (.agg (cellsOf dt).toArray)).run Tryd.prog W = .ok (decide (ds = dt)) W from eq_dig 37 32 Tryd.underlying37 W ds dt hD.1 hE.1 hD.2 hE.2)
  have HZL := Lib.hid hr.1
  clear hds hdt hD hE ht hr hr1 hnil hnil1 hlc1 hcm1
  go_enter Tryd.func5, Tryd.ntmps5
  go_wp2_with fail
  refine HD.out.mono ?_
  rintro e1 w1 ⟨rfl, hk1, hb1⟩
  obtain ⟨d, hd⟩ : ∃ d, d = w.heap.size := ⟨_, rfl⟩
  have hdx1 : Dx (fun _ => False) w.heap.size d 0 (fresh 2097152 []) w1 := ⟨⟨newS 2097152, by rw [hd]; exact hk1, anewS 2097152 (by omega) (by omega), fun j hj => hj.elim⟩, fun j hj => hj.elim⟩
  rw [← hd]
  have HNW := Lib.hid (bnew_ok hdx1 (by omega) hb1.size rfl rfl)
  have HB1 := Lib.hid hb1
  clear hk1 hb1 hdx1 HD hd
  go_wp2_with fail
  refine HNW.out.mono ?_
  rintro e2 w2 ⟨rfl, hbs2, hb2, -⟩
  obtain ⟨sb, hsb⟩ : ∃ sb, sb = w1.heap.size := ⟨_, rfl⟩
  rw [← hsb] at hbs2 ⊢
  have HBS2 := Lib.hid hbs2
  have HB2 := Lib.hid (HB1.out.trans hb2)
  have HAW := Lib.hid (awake12_c w2 (Tab.below HT.out HB2.out HT.out.pos))
  clear hbs2 hb2 HNW HB1 hsb
  go_wp2_with fail
  refine HAW.out.mono ?_
  rintro e3 w3 ⟨rfl, hb3⟩
  have HBS3 := Lib.hid (HBS2.out.below hb3)
  have HB3 := Lib.hid (HB2.out.trans (hb3.mono HB2.out.size))
  clear hb3 HAW HBS2 HB2
  by_cases hbig : 524288 < (len0 : Int)
  · have HAW := Lib.hid (awake12_c w3 (Tab.below HT.out HB3.out HT.out.pos))
    go_wp2_with fail
    refine HAW.out.mono ?_
    rintro e4 w4 ⟨rfl, hb4⟩
    have HE := Lib.hid (HB3.out.trans (hb4.mono HB3.out.size))
    clear hb4 HAW
    go_wp2_with fail
    go_ret
    exact ⟨rfl, HE.out⟩
  by_cases hbiq : 524288 < (len1 : Int)
  · have HAW := Lib.hid (awake12_c w3 (Tab.below HT.out HB3.out HT.out.pos))
    go_wp2_with fail
    refine HAW.out.mono ?_
    rintro e4 w4 ⟨rfl, hb4⟩
    have HE := Lib.hid (HB3.out.trans (hb4.mono HB3.out.size))
    clear hb4 HAW
    go_wp2_with fail
    go_ret
    exact ⟨rfl, HE.out⟩
  have hsm : len0 ≤ 524288 := by omega
  have hsq : len1 ≤ 524288 := by omega
  have HZM := Lib.hid (show z0.length ≤ 1048576 from by have := HZL.out; omega)
  have hzl := HZL.out
  cases there with
  | true =>
    have hp1 := bput_c HBS3.out (Tab.below HT.out HB3.out HT.out.pos) (by omega) a0 len0 cap0 z0 (HR.out.below HB3.out) hlc (by omega) (fun b o s e hn => .inl (rd_blkB HR.out e hn)) HNIL.out HT.out.pos (by omega)
    rw [put_fresh (by omega) (by omega), HDS.out] at hp1
    have HP1 := Lib.hid hp1
    clear hp1 hzl
    go_wp2_with fail
    refine HP1.out.mono ?_
    rintro e4 w4 ⟨dz, hz, rfl, hbs4, hb4, -⟩
    obtain rfl : ds = dz := by
      rcases hz with ⟨_, h⟩ | ⟨h, _⟩
      · exact h.symm
      · exact absurd rfl h
    have HBS4 := Lib.hid hbs4
    have HB4 := Lib.hid (HB3.out.trans hb4)
    clear hbs4 hb4 HP1 hz HBS3 HB3
    have HLF := Lib.hid (show lookF [(fileB ds, z0)] (⟨#[102]⟩ : ByteArray) = none from (by rw [look_one]; exact if_neg (fun e => fileB_ne ds HD32.out (by decide) e.symm)))
    have HLG := Lib.hid (show lookF [(fileB ds, z0)] (⟨#[103]⟩ : ByteArray) = none from (by rw [look_one]; exact if_neg (fun e => fileB_ne ds HD32.out (by decide) e.symm)))
    have HADO := Lib.hid (show (madeA 2097152 [(fileB ds, z0)] (⟨#[102]⟩ : ByteArray) z0).adopt (⟨#[102]⟩ : ByteArray) ds = (fresh 2097152 [(fileB ds, z0)], 0) from by
      have h := ad_there (room := 2097152) (l := [(fileB ds, z0)]) (nm := (⟨#[102]⟩ : ByteArray)) (ps := z0) (y := z0) HLF.out (by unfold Srt; simp) (by rw [HDS.out, look_one, if_pos rfl]) (by rw [HDS.out]; exact (fileB_ne ds HD32.out (by decide)).symm)
      rwa [HDS.out] at h)
    have HLN := Lib.hid (show ([(fileB ds, z0)] : Fls).length < 4096 from by simp)
    have HUL := Lib.hid (show (usedF [(fileB ds, z0)] : Int) + (z0.length : Int) ≤ 2097152 from by have := HZL.out; simp only [usedF]; omega)
    have HSR := Lib.hid (show Srt [(fileB ds, z0)] from by unfold Srt; simp)
    have hc := HBS4.out.dx.create (⟨#[102]⟩ : ByteArray) (by decide) (by omega)
    rw [bare_ok (l := [(fileB ds, z0)]) (nm := (⟨#[102]⟩ : ByteArray)) HLF.out (by decide) HLN.out] at hc
    have HC := Lib.hid hc
    clear hc
    go_wp2_with fail
    refine HC.out.mono ?_
    rintro e5 w5 ⟨rfl, k1, k2, k3⟩
    have hbs5 := HBS4.out.to k1 k3
    have hb5 := HB4.out.trans k2
    have ha := hbs5.dx.append (⟨#[102]⟩ : ByteArray) (by decide) a0 len0 cap0 z0 (HR.out.below hb5) (fun b o s e hn => .inl (rd_blkB HR.out e hn)) HNIL.out (by omega)
    rw [made_ok (l := [(fileB ds, z0)]) (nm := (⟨#[102]⟩ : ByteArray)) HLF.out HZM.out HUL.out HSR.out] at ha
    have HAP := Lib.hid ha
    have HBS5 := Lib.hid hbs5
    have HB5 := Lib.hid hb5
    clear ha k1 k2 k3 hbs5 hb5 HC HBS4 HB4
    go_wp2_with fail
    refine HAP.out.mono ?_
    rintro e6 w6 ⟨rfl, k1, k2, k3⟩
    have HBS6 := Lib.hid (HBS5.out.to k1 k3)
    have HB6 := Lib.hid (HB5.out.trans k2)
    have hs1 := dsum_c a0 len0 cap0 z0 w6 (HR.out.below HB6.out) HLC.out.1 (by have := HLC.out; omega) (by omega) (Tab.below HT.out HB6.out HT.out.pos)
    rw [HDS.out] at hs1
    have HSM := Lib.hid hs1
    clear k1 k2 k3 hs1 HAP HBS5 HB5
    go_wp2_with fail
    refine HSM.out.mono ?_
    rintro e7 w7 ⟨rfl, hb7⟩
    have HBS7 := Lib.hid (HBS6.out.below hb7)
    have HB7 := Lib.hid (HB6.out.trans (hb7.mono HB6.out.size))
    have hs2 := dsum_c a1 len1 cap1 z1 w7 (HR1.out.below HB7.out) HLC.out.2.2.1 (by have := HLC.out; omega) (by omega) (Tab.below HT.out HB7.out HT.out.pos)
    rw [HDT.out] at hs2
    have HSQ := Lib.hid hs2
    clear hb7 hs2 HSM HBS6 HB6
    go_wp2_with fail
    refine HSQ.out.mono ?_
    rintro e8 w8 ⟨rfl, hb8⟩
    have HBS8 := Lib.hid (HBS7.out.below hb8)
    have HB8 := Lib.hid (HB7.out.trans (hb8.mono HB7.out.size))
    have HNE := Lib.hid (Nat.ne_of_lt (Nat.lt_succ_self w8.heap.size))
    clear hb8 HSQ HBS7 HB7
    have HN8 := Lib.hid (show ∀ O O' : Obj, ((w8.alloc O).alloc O').heap[w8.heap.size]? = some O ∧ ((w8.alloc O).alloc O').heap[w8.heap.size + 1]? = some O' from fun O O' => two_new w8 O O')
    by_cases hdt : ds = dt
    · subst hdt
      have HEQ := Lib.hid (fun W => show (Op.equalIn 10000 37 (.agg (cellsOf ds).toArray) (.agg (cellsOf ds).toArray)).run Tryd.prog W = .ok true W from by have := HEQ.out W; simpa using this)
      go_wp2_with (first | (refine wpList_store_row (by rfl) 37 _ _ (by rfl) w8.heap.size (cellsOf ds).toArray (by rfl) (by rfl) 37 (cellsOf zs32).toArray (by exact (HN8.out _ _).1) HI32ds.out HSZds.out (cellsOf_all _) ?_; refine gen_wpl (F := fun W => Brow W w8.heap.size 37 ds ∧ W.heap[w8.heap.size + 1]? = some (.cells (cellsOf zs32).toArray 37 (0, 0)) ∧ Below w8.heap.size w8 W) ⟨setRow_heap _ _ _ _ _ _ (HN8.out _ _).1, (setRow_otherB _ _ _ _ (by omega)).trans (HN8.out _ _).2, (((Below.refl w8.heap.size w8).alloc (Nat.le_refl _) _).alloc (by simp) _).setRow (Nat.le_refl _) _⟩ ?_; rintro w9a ⟨hx9, hz9, hb9⟩; have HA9a := Lib.hid hx9; have HZ9 := Lib.hid hz9; have HB9a := Lib.hid hb9; clear hx9 hz9 hb9) | (refine wpList_store_row (by rfl) 37 _ _ (by rfl) (w8.heap.size + 1) (cellsOf ds).toArray (by rfl) (by rfl) 37 (cellsOf zs32).toArray HZ9.out HI32ds.out HSZds.out (cellsOf_all _) ?_; refine gen_wpl (F := fun W => Brow W w8.heap.size 37 ds ∧ Brow W (w8.heap.size + 1) 37 ds ∧ Below w8.heap.size w8 W) ⟨(setRow_otherB _ _ _ _ (by omega)).trans HA9a.out, setRow_heap _ _ _ _ _ _ HZ9.out, HB9a.out.setRow (by omega) _⟩ ?_; rintro w9 ⟨hx9, hz9, hb9⟩; have HA9 := Lib.hid hx9; have HX9 := Lib.hid hz9; have HB89 := Lib.hid hb9; clear hx9 hz9 hb9) | (refine wpList_runG (by rfl) (.agg (cellsOf ds).toArray) (exec_loadD HA9.out HD32.out (x := .tmp 11) (by rfl) _ rfl) ?_) | (refine wpList_runG (by rfl) (.agg (cellsOf ds).toArray) (exec_loadD HX9.out HE32.out (x := .tmp 12) (by rfl) _ rfl) ?_) | (refine wpList_runG (by rfl) (.bool false) (exec_neqD HGT.out HEQ.out (x := .tmp 56) (y := .tmp 57) (by rfl) (by rfl) _ rfl _) ?_))
      obtain ⟨XA, hXA⟩ : ∃ XA, XA = w8.heap.size := ⟨_, rfl⟩
      obtain ⟨XB, hXB⟩ : ∃ XB, XB = w8.heap.size + 1 := ⟨_, rfl⟩
      rw [← hXB] at HX9 ⊢
      rw [← hXA] at HA9 ⊢
      have HXA := Lib.hid hXA
      have HXB := Lib.hid hXB
      clear hXA hXB
      have hbs9 := HBS8.out.with2 HB89.out XA XB (by rw [HXA.out]; exact Nat.le_refl _) (by rw [HXB.out]; omega) HA9.out.lt HX9.out.lt
      have HBS9 := Lib.hid hbs9
      have HB9 := Lib.hid (HB8.out.trans (HB89.out.mono HB8.out.size))
      clear hbs9 HB89 HXA HXB HN8 HBS8 HB8
      have HBS10 := HBS9
      have HB10 := HB9
      have HA10 := HA9
      have HX10 := HX9
      clear HBS9 HB9 HA9 HX9
      have h11 := badopt_c HBS10.out (Tab.below HT.out HB10.out HT.out.pos) (by omega) HT.out.pos (⟨#[103]⟩ : ByteArray) (by decide) ds HD32.out
      rw [ad_gone rfl ((made_now HLF.out _).trans ((if_neg (by decide)).trans HLG.out))] at h11
      have HC11 := Lib.hid h11
      clear h11
      refine HC11.out.mono ?_
      rintro e11 w11 ⟨rfl, k1, k2, k3⟩
      have HBS11 := Lib.hid k1
      have HB11 := Lib.hid (HB10.out.trans k2)
      have HA11 := Lib.hid (show Brow w11 XA 37 ds from (k3 XA (.inr (.inl rfl))).trans HA10.out)
      have HX11 := Lib.hid (show Brow w11 XB 37 ds from (k3 XB (.inr (.inr rfl))).trans HX10.out)
      clear k1 k2 k3 HC11 HBS10 HB10 HA10 HX10
      have h12 := badopt_c HBS11.out (Tab.below HT.out HB11.out HT.out.pos) (by omega) HT.out.pos (⟨#[102]⟩ : ByteArray) (by decide) ds HD32.out
      rw [HADO.out] at h12
      have HC12 := Lib.hid h12
      clear h12
      go_wp2_with (first | (refine wpList_runG (by rfl) (.agg (cellsOf ds).toArray) (exec_loadD HA11.out HD32.out (x := .tmp 11) (by rfl) _ rfl) ?_) | (refine wpList_runG (by rfl) (.agg (cellsOf ds).toArray) (exec_loadD HX11.out HE32.out (x := .tmp 12) (by rfl) _ rfl) ?_) | (refine wpList_runG (by rfl) (.bool false) (exec_neqD HGT.out HEQ.out (x := .tmp 56) (y := .tmp 57) (by rfl) (by rfl) _ rfl _) ?_))
      refine HC12.out.mono ?_
      rintro e12 w12 ⟨rfl, k1, k2, k3⟩
      have HBS12 := Lib.hid k1
      have HB12 := Lib.hid (HB11.out.trans k2)
      have HA12 := Lib.hid (show Brow w12 XA 37 ds from (k3 XA (.inr (.inl rfl))).trans HA11.out)
      have HX12 := Lib.hid (show Brow w12 XB 37 ds from (k3 XB (.inr (.inr rfl))).trans HX11.out)
      clear k1 k2 k3 HC12 HBS11 HB11 HA11 HX11
      have HLO := Lib.hid (show Calls Tryd.prog 26 #[.pointer (some ⟨d, 0, none⟩)] w12 fun e w' => e = .returned (.int .i64 0) ∧ w' = w12 from by
        obtain ⟨S, k1, k2, _⟩ := HBS12.out.dx.ex
        have h1 := dloose_c k1
        rw [k2.loose] at h1
        exact h1)
      have HWH := Lib.hid (show Calls Tryd.prog 19 #[.pointer (some ⟨sb, 0, none⟩), .agg (cellsOf ds).toArray] w12 fun e w' => e = .returned (.bool true) ∧ Below w12.heap.size w12 w' from by
        have h1 := bwhole_c HBS12.out ds HD32.out (Tab.below HT.out HB12.out HT.out.pos)
        have h2 := ck_one 2097152 (fileB ds) z0
        rw [HDS.out] at h2
        rw [h2] at h1
        exact h1)
      go_wp2_with (first | (refine wpList_runG (by rfl) (.agg (cellsOf ds).toArray) (exec_loadD HA12.out HD32.out (x := .tmp 11) (by rfl) _ rfl) ?_) | (refine wpList_runG (by rfl) (.agg (cellsOf ds).toArray) (exec_loadD HX12.out HE32.out (x := .tmp 12) (by rfl) _ rfl) ?_) | (refine wpList_runG (by rfl) (.bool false) (exec_neqD HGT.out HEQ.out (x := .tmp 56) (y := .tmp 57) (by rfl) (by rfl) _ rfl _) ?_))
      refine HLO.out.mono ?_
      rintro e13 w13 ⟨rfl, hw13⟩
      subst hw13
      go_wp2_with (first | (refine wpList_runG (by rfl) (.agg (cellsOf ds).toArray) (exec_loadD HA12.out HD32.out (x := .tmp 11) (by rfl) _ rfl) ?_) | (refine wpList_runG (by rfl) (.agg (cellsOf ds).toArray) (exec_loadD HX12.out HE32.out (x := .tmp 12) (by rfl) _ rfl) ?_) | (refine wpList_runG (by rfl) (.bool false) (exec_neqD HGT.out HEQ.out (x := .tmp 56) (y := .tmp 57) (by rfl) (by rfl) _ rfl _) ?_))
      refine HWH.out.mono ?_
      rintro e14 w14 ⟨rfl, hb14⟩
      have HBS14 := Lib.hid (HBS12.out.below hb14)
      have HB14 := Lib.hid (HB12.out.trans (hb14.mono HB12.out.size))
      have HA14 := Lib.hid (HA12.out.below hb14 HA12.out.lt)
      have HX14 := Lib.hid (HX12.out.below hb14 HX12.out.lt)
      have HUS := Lib.hid (show Calls Tryd.prog 20 #[.pointer (some ⟨d, 0, none⟩)] w14 fun e w' => e = .returned (.int .i64 (len0 : Int)) ∧ w' = w14 from by
        obtain ⟨S, k1, k2, _⟩ := HBS14.out.dx.ex
        have h1 := dused_c k1
        have h2 : S.used = (len0 : Int) := by
          rw [k2.used]
          show ((usedF [(fileB ds, z0)] : Nat) : Int) = _
          have h3 : usedF [(fileB ds, z0)] = z0.length := by simp [usedF]
          rw [h3, HZL.out]
        rw [h2] at h1
        exact h1)
      have hll : ((len0 : Int) != (len0 : Int)) = false := by simp
      clear hb14 HLO HWH HBS12 HB12 HA12 HX12
      go_wp2_with (first | (refine wpList_runG (by rfl) (.agg (cellsOf ds).toArray) (exec_loadD HA14.out HD32.out (x := .tmp 11) (by rfl) _ rfl) ?_) | (refine wpList_runG (by rfl) (.agg (cellsOf ds).toArray) (exec_loadD HX14.out HE32.out (x := .tmp 12) (by rfl) _ rfl) ?_) | (refine wpList_runG (by rfl) (.bool false) (exec_neqD HGT.out HEQ.out (x := .tmp 56) (y := .tmp 57) (by rfl) (by rfl) _ rfl _) ?_))
      refine HUS.out.mono ?_
      rintro e15 w15 ⟨rfl, hw15⟩
      subst hw15
      clear HUS
      have h16 := badopt_c HBS14.out (Tab.below HT.out HB14.out HT.out.pos) (by omega) HT.out.pos (⟨#[102]⟩ : ByteArray) (by decide) ds HD32.out
      rw [ad_gone rfl ((look_one _ _ _).trans (if_neg (fileB_ne ds HD32.out (by decide)).symm))] at h16
      have HC16 := Lib.hid h16
      clear h16
      go_wp2_with (first | (refine wpList_runG (by rfl) (.agg (cellsOf ds).toArray) (exec_loadD HA14.out HD32.out (x := .tmp 11) (by rfl) _ rfl) ?_) | (refine wpList_runG (by rfl) (.agg (cellsOf ds).toArray) (exec_loadD HX14.out HE32.out (x := .tmp 12) (by rfl) _ rfl) ?_) | (refine wpList_runG (by rfl) (.bool false) (exec_neqD HGT.out HEQ.out (x := .tmp 56) (y := .tmp 57) (by rfl) (by rfl) _ rfl _) ?_))
      refine HC16.out.mono ?_
      rintro e16 w16 ⟨rfl, k1, k2, k3⟩
      have HBS16 := Lib.hid k1
      have HB16 := Lib.hid (HB14.out.trans k2)
      have HA16 := Lib.hid (show Brow w16 XA 37 ds from (k3 XA (.inr (.inl rfl))).trans HA14.out)
      have HX16 := Lib.hid (show Brow w16 XB 37 ds from (k3 XB (.inr (.inr rfl))).trans HX14.out)
      clear k1 k2 k3 HC16 HBS14 HB14 HA14 HX14
      clear hll
      go_wp2_with fail
      go_ret
      exact ⟨rfl, HB16.out⟩
    · have HEQ := Lib.hid (fun W => show (Op.equalIn 10000 37 (.agg (cellsOf ds).toArray) (.agg (cellsOf dt).toArray)).run Tryd.prog W = .ok false W from by have := HEQ.out W; rwa [decide_eq_false hdt] at this)
      have HND := Lib.hid hdt
      clear hdt
      go_wp2_with (first | (refine wpList_store_row (by rfl) 37 _ _ (by rfl) w8.heap.size (cellsOf ds).toArray (by rfl) (by rfl) 37 (cellsOf zs32).toArray (by exact (HN8.out _ _).1) HI32ds.out HSZds.out (cellsOf_all _) ?_; refine gen_wpl (F := fun W => Brow W w8.heap.size 37 ds ∧ W.heap[w8.heap.size + 1]? = some (.cells (cellsOf zs32).toArray 37 (0, 0)) ∧ Below w8.heap.size w8 W) ⟨setRow_heap _ _ _ _ _ _ (HN8.out _ _).1, (setRow_otherB _ _ _ _ (by omega)).trans (HN8.out _ _).2, (((Below.refl w8.heap.size w8).alloc (Nat.le_refl _) _).alloc (by simp) _).setRow (Nat.le_refl _) _⟩ ?_; rintro w9a ⟨hx9, hz9, hb9⟩; have HA9a := Lib.hid hx9; have HZ9 := Lib.hid hz9; have HB9a := Lib.hid hb9; clear hx9 hz9 hb9) | (refine wpList_store_row (by rfl) 37 _ _ (by rfl) (w8.heap.size + 1) (cellsOf dt).toArray (by rfl) (by rfl) 37 (cellsOf zs32).toArray HZ9.out HI32dt.out HSZdt.out (cellsOf_all _) ?_; refine gen_wpl (F := fun W => Brow W w8.heap.size 37 ds ∧ Brow W (w8.heap.size + 1) 37 dt ∧ Below w8.heap.size w8 W) ⟨(setRow_otherB _ _ _ _ (by omega)).trans HA9a.out, setRow_heap _ _ _ _ _ _ HZ9.out, HB9a.out.setRow (by omega) _⟩ ?_; rintro w9 ⟨hx9, hz9, hb9⟩; have HA9 := Lib.hid hx9; have HX9 := Lib.hid hz9; have HB89 := Lib.hid hb9; clear hx9 hz9 hb9) | (refine wpList_runG (by rfl) (.agg (cellsOf ds).toArray) (exec_loadD HA9.out HD32.out (x := .tmp 11) (by rfl) _ rfl) ?_) | (refine wpList_runG (by rfl) (.agg (cellsOf dt).toArray) (exec_loadD HX9.out HE32.out (x := .tmp 12) (by rfl) _ rfl) ?_) | (refine wpList_runG (by rfl) (.bool true) (exec_neqD HGT.out HEQ.out (x := .tmp 56) (y := .tmp 57) (by rfl) (by rfl) _ rfl _) ?_))
      obtain ⟨XA, hXA⟩ : ∃ XA, XA = w8.heap.size := ⟨_, rfl⟩
      obtain ⟨XB, hXB⟩ : ∃ XB, XB = w8.heap.size + 1 := ⟨_, rfl⟩
      rw [← hXB] at HX9 ⊢
      rw [← hXA] at HA9 ⊢
      have HXA := Lib.hid hXA
      have HXB := Lib.hid hXB
      clear hXA hXB
      have hbs9 := HBS8.out.with2 HB89.out XA XB (by rw [HXA.out]; exact Nat.le_refl _) (by rw [HXB.out]; omega) HA9.out.lt HX9.out.lt
      have HBS9 := Lib.hid hbs9
      have HB9 := Lib.hid (HB8.out.trans (HB89.out.mono HB8.out.size))
      clear hbs9 HB89 HXA HXB HN8 HBS8 HB8
      have h10 := badopt_c HBS9.out (Tab.below HT.out HB9.out HT.out.pos) (by omega) HT.out.pos (⟨#[102]⟩ : ByteArray) (by decide) dt HE32.out
      rw [ad_bad (z := z0) rfl ((made_now HLF.out _).trans (if_pos rfl)) (by rw [HDS.out]; exact HND.out)] at h10
      have HC10 := Lib.hid h10
      clear h10
      refine HC10.out.mono ?_
      rintro e10 w10 ⟨rfl, k1, k2, k3⟩
      have HBS10 := Lib.hid k1
      have HB10 := Lib.hid (HB9.out.trans k2)
      have HA10 := Lib.hid (show Brow w10 XA 37 ds from (k3 XA (.inr (.inl rfl))).trans HA9.out)
      have HX10 := Lib.hid (show Brow w10 XB 37 dt from (k3 XB (.inr (.inr rfl))).trans HX9.out)
      clear k1 k2 k3 HC10 HBS9 HB9 HA9 HX9
      have h11 := badopt_c HBS10.out (Tab.below HT.out HB10.out HT.out.pos) (by omega) HT.out.pos (⟨#[103]⟩ : ByteArray) (by decide) ds HD32.out
      rw [ad_gone rfl ((made_now HLF.out _).trans ((if_neg (by decide)).trans HLG.out))] at h11
      have HC11 := Lib.hid h11
      clear h11
      go_wp2_with (first | (refine wpList_runG (by rfl) (.agg (cellsOf ds).toArray) (exec_loadD HA10.out HD32.out (x := .tmp 11) (by rfl) _ rfl) ?_) | (refine wpList_runG (by rfl) (.agg (cellsOf dt).toArray) (exec_loadD HX10.out HE32.out (x := .tmp 12) (by rfl) _ rfl) ?_) | (refine wpList_runG (by rfl) (.bool true) (exec_neqD HGT.out HEQ.out (x := .tmp 56) (y := .tmp 57) (by rfl) (by rfl) _ rfl _) ?_))
      refine HC11.out.mono ?_
      rintro e11 w11 ⟨rfl, k1, k2, k3⟩
      have HBS11 := Lib.hid k1
      have HB11 := Lib.hid (HB10.out.trans k2)
      have HA11 := Lib.hid (show Brow w11 XA 37 ds from (k3 XA (.inr (.inl rfl))).trans HA10.out)
      have HX11 := Lib.hid (show Brow w11 XB 37 dt from (k3 XB (.inr (.inr rfl))).trans HX10.out)
      clear k1 k2 k3 HC11 HBS10 HB10 HA10 HX10
      have h12 := badopt_c HBS11.out (Tab.below HT.out HB11.out HT.out.pos) (by omega) HT.out.pos (⟨#[102]⟩ : ByteArray) (by decide) ds HD32.out
      rw [HADO.out] at h12
      have HC12 := Lib.hid h12
      clear h12
      go_wp2_with (first | (refine wpList_runG (by rfl) (.agg (cellsOf ds).toArray) (exec_loadD HA11.out HD32.out (x := .tmp 11) (by rfl) _ rfl) ?_) | (refine wpList_runG (by rfl) (.agg (cellsOf dt).toArray) (exec_loadD HX11.out HE32.out (x := .tmp 12) (by rfl) _ rfl) ?_) | (refine wpList_runG (by rfl) (.bool true) (exec_neqD HGT.out HEQ.out (x := .tmp 56) (y := .tmp 57) (by rfl) (by rfl) _ rfl _) ?_))
      refine HC12.out.mono ?_
      rintro e12 w12 ⟨rfl, k1, k2, k3⟩
      have HBS12 := Lib.hid k1
      have HB12 := Lib.hid (HB11.out.trans k2)
      have HA12 := Lib.hid (show Brow w12 XA 37 ds from (k3 XA (.inr (.inl rfl))).trans HA11.out)
      have HX12 := Lib.hid (show Brow w12 XB 37 dt from (k3 XB (.inr (.inr rfl))).trans HX11.out)
      clear k1 k2 k3 HC12 HBS11 HB11 HA11 HX11
      have HLO := Lib.hid (show Calls Tryd.prog 26 #[.pointer (some ⟨d, 0, none⟩)] w12 fun e w' => e = .returned (.int .i64 0) ∧ w' = w12 from by
        obtain ⟨S, k1, k2, _⟩ := HBS12.out.dx.ex
        have h1 := dloose_c k1
        rw [k2.loose] at h1
        exact h1)
      have HWH := Lib.hid (show Calls Tryd.prog 19 #[.pointer (some ⟨sb, 0, none⟩), .agg (cellsOf ds).toArray] w12 fun e w' => e = .returned (.bool true) ∧ Below w12.heap.size w12 w' from by
        have h1 := bwhole_c HBS12.out ds HD32.out (Tab.below HT.out HB12.out HT.out.pos)
        have h2 := ck_one 2097152 (fileB ds) z0
        rw [HDS.out] at h2
        rw [h2] at h1
        exact h1)
      go_wp2_with (first | (refine wpList_runG (by rfl) (.agg (cellsOf ds).toArray) (exec_loadD HA12.out HD32.out (x := .tmp 11) (by rfl) _ rfl) ?_) | (refine wpList_runG (by rfl) (.agg (cellsOf dt).toArray) (exec_loadD HX12.out HE32.out (x := .tmp 12) (by rfl) _ rfl) ?_) | (refine wpList_runG (by rfl) (.bool true) (exec_neqD HGT.out HEQ.out (x := .tmp 56) (y := .tmp 57) (by rfl) (by rfl) _ rfl _) ?_))
      refine HLO.out.mono ?_
      rintro e13 w13 ⟨rfl, hw13⟩
      subst hw13
      go_wp2_with (first | (refine wpList_runG (by rfl) (.agg (cellsOf ds).toArray) (exec_loadD HA12.out HD32.out (x := .tmp 11) (by rfl) _ rfl) ?_) | (refine wpList_runG (by rfl) (.agg (cellsOf dt).toArray) (exec_loadD HX12.out HE32.out (x := .tmp 12) (by rfl) _ rfl) ?_) | (refine wpList_runG (by rfl) (.bool true) (exec_neqD HGT.out HEQ.out (x := .tmp 56) (y := .tmp 57) (by rfl) (by rfl) _ rfl _) ?_))
      refine HWH.out.mono ?_
      rintro e14 w14 ⟨rfl, hb14⟩
      have HBS14 := Lib.hid (HBS12.out.below hb14)
      have HB14 := Lib.hid (HB12.out.trans (hb14.mono HB12.out.size))
      have HA14 := Lib.hid (HA12.out.below hb14 HA12.out.lt)
      have HX14 := Lib.hid (HX12.out.below hb14 HX12.out.lt)
      have HUS := Lib.hid (show Calls Tryd.prog 20 #[.pointer (some ⟨d, 0, none⟩)] w14 fun e w' => e = .returned (.int .i64 (len0 : Int)) ∧ w' = w14 from by
        obtain ⟨S, k1, k2, _⟩ := HBS14.out.dx.ex
        have h1 := dused_c k1
        have h2 : S.used = (len0 : Int) := by
          rw [k2.used]
          show ((usedF [(fileB ds, z0)] : Nat) : Int) = _
          have h3 : usedF [(fileB ds, z0)] = z0.length := by simp [usedF]
          rw [h3, HZL.out]
        rw [h2] at h1
        exact h1)
      have hll : ((len0 : Int) != (len0 : Int)) = false := by simp
      clear hb14 HLO HWH HBS12 HB12 HA12 HX12
      go_wp2_with (first | (refine wpList_runG (by rfl) (.agg (cellsOf ds).toArray) (exec_loadD HA14.out HD32.out (x := .tmp 11) (by rfl) _ rfl) ?_) | (refine wpList_runG (by rfl) (.agg (cellsOf dt).toArray) (exec_loadD HX14.out HE32.out (x := .tmp 12) (by rfl) _ rfl) ?_) | (refine wpList_runG (by rfl) (.bool true) (exec_neqD HGT.out HEQ.out (x := .tmp 56) (y := .tmp 57) (by rfl) (by rfl) _ rfl _) ?_))
      refine HUS.out.mono ?_
      rintro e15 w15 ⟨rfl, hw15⟩
      subst hw15
      clear HUS
      have h16 := badopt_c HBS14.out (Tab.below HT.out HB14.out HT.out.pos) (by omega) HT.out.pos (⟨#[102]⟩ : ByteArray) (by decide) ds HD32.out
      rw [ad_gone rfl ((look_one _ _ _).trans (if_neg (fileB_ne ds HD32.out (by decide)).symm))] at h16
      have HC16 := Lib.hid h16
      clear h16
      go_wp2_with (first | (refine wpList_runG (by rfl) (.agg (cellsOf ds).toArray) (exec_loadD HA14.out HD32.out (x := .tmp 11) (by rfl) _ rfl) ?_) | (refine wpList_runG (by rfl) (.agg (cellsOf dt).toArray) (exec_loadD HX14.out HE32.out (x := .tmp 12) (by rfl) _ rfl) ?_) | (refine wpList_runG (by rfl) (.bool true) (exec_neqD HGT.out HEQ.out (x := .tmp 56) (y := .tmp 57) (by rfl) (by rfl) _ rfl _) ?_))
      refine HC16.out.mono ?_
      rintro e16 w16 ⟨rfl, k1, k2, k3⟩
      have HBS16 := Lib.hid k1
      have HB16 := Lib.hid (HB14.out.trans k2)
      have HA16 := Lib.hid (show Brow w16 XA 37 ds from (k3 XA (.inr (.inl rfl))).trans HA14.out)
      have HX16 := Lib.hid (show Brow w16 XB 37 dt from (k3 XB (.inr (.inr rfl))).trans HX14.out)
      clear k1 k2 k3 HC16 HBS14 HB14 HA14 HX14
      clear hll
      go_wp2_with fail
      go_ret
      exact ⟨rfl, HB16.out⟩
    
  | false =>
    have HBS4 := HBS3
    have HB4 := HB3
    clear HBS3 HB3 hzl
    have HLF := Lib.hid (show lookF ([] : Fls) (⟨#[102]⟩ : ByteArray) = none from rfl)
    have HLG := Lib.hid (show lookF ([] : Fls) (⟨#[103]⟩ : ByteArray) = none from rfl)
    have HADO := Lib.hid (show (madeA 2097152 ([] : Fls) (⟨#[102]⟩ : ByteArray) z0).adopt (⟨#[102]⟩ : ByteArray) ds = (fresh 2097152 [(fileB ds, z0)], 0) from by
      have h := ad_new (room := 2097152) (l := ([] : Fls)) (nm := (⟨#[102]⟩ : ByteArray)) (ps := z0) HLF.out List.Pairwise.nil rfl (by rw [HDS.out]; exact (fileB_ne ds HD32.out (by decide)).symm) (by rw [HDS.out]; exact fileB_isNm ds HD32.out)
      rwa [HDS.out] at h)
    have HLN := Lib.hid (show (([] : Fls) : Fls).length < 4096 from by simp)
    have HUL := Lib.hid (show (usedF ([] : Fls) : Int) + (z0.length : Int) ≤ 2097152 from by have := HZL.out; simp only [usedF]; omega)
    have HSR := Lib.hid (show Srt ([] : Fls) from List.Pairwise.nil)
    have hc := HBS4.out.dx.create (⟨#[102]⟩ : ByteArray) (by decide) (by omega)
    rw [bare_ok (l := ([] : Fls)) (nm := (⟨#[102]⟩ : ByteArray)) HLF.out (by decide) HLN.out] at hc
    have HC := Lib.hid hc
    clear hc
    go_wp2_with fail
    refine HC.out.mono ?_
    rintro e5 w5 ⟨rfl, k1, k2, k3⟩
    have hbs5 := HBS4.out.to k1 k3
    have hb5 := HB4.out.trans k2
    have ha := hbs5.dx.append (⟨#[102]⟩ : ByteArray) (by decide) a0 len0 cap0 z0 (HR.out.below hb5) (fun b o s e hn => .inl (rd_blkB HR.out e hn)) HNIL.out (by omega)
    rw [made_ok (l := ([] : Fls)) (nm := (⟨#[102]⟩ : ByteArray)) HLF.out HZM.out HUL.out HSR.out] at ha
    have HAP := Lib.hid ha
    have HBS5 := Lib.hid hbs5
    have HB5 := Lib.hid hb5
    clear ha k1 k2 k3 hbs5 hb5 HC HBS4 HB4
    go_wp2_with fail
    refine HAP.out.mono ?_
    rintro e6 w6 ⟨rfl, k1, k2, k3⟩
    have HBS6 := Lib.hid (HBS5.out.to k1 k3)
    have HB6 := Lib.hid (HB5.out.trans k2)
    have hs1 := dsum_c a0 len0 cap0 z0 w6 (HR.out.below HB6.out) HLC.out.1 (by have := HLC.out; omega) (by omega) (Tab.below HT.out HB6.out HT.out.pos)
    rw [HDS.out] at hs1
    have HSM := Lib.hid hs1
    clear k1 k2 k3 hs1 HAP HBS5 HB5
    go_wp2_with fail
    refine HSM.out.mono ?_
    rintro e7 w7 ⟨rfl, hb7⟩
    have HBS7 := Lib.hid (HBS6.out.below hb7)
    have HB7 := Lib.hid (HB6.out.trans (hb7.mono HB6.out.size))
    have hs2 := dsum_c a1 len1 cap1 z1 w7 (HR1.out.below HB7.out) HLC.out.2.2.1 (by have := HLC.out; omega) (by omega) (Tab.below HT.out HB7.out HT.out.pos)
    rw [HDT.out] at hs2
    have HSQ := Lib.hid hs2
    clear hb7 hs2 HSM HBS6 HB6
    go_wp2_with fail
    refine HSQ.out.mono ?_
    rintro e8 w8 ⟨rfl, hb8⟩
    have HBS8 := Lib.hid (HBS7.out.below hb8)
    have HB8 := Lib.hid (HB7.out.trans (hb8.mono HB7.out.size))
    have HNE := Lib.hid (Nat.ne_of_lt (Nat.lt_succ_self w8.heap.size))
    clear hb8 HSQ HBS7 HB7
    have HN8 := Lib.hid (show ∀ O O' : Obj, ((w8.alloc O).alloc O').heap[w8.heap.size]? = some O ∧ ((w8.alloc O).alloc O').heap[w8.heap.size + 1]? = some O' from fun O O' => two_new w8 O O')
    by_cases hdt : ds = dt
    · subst hdt
      have HEQ := Lib.hid (fun W => show (Op.equalIn 10000 37 (.agg (cellsOf ds).toArray) (.agg (cellsOf ds).toArray)).run Tryd.prog W = .ok true W from by have := HEQ.out W; simpa using this)
      go_wp2_with (first | (refine wpList_store_row (by rfl) 37 _ _ (by rfl) w8.heap.size (cellsOf ds).toArray (by rfl) (by rfl) 37 (cellsOf zs32).toArray (by exact (HN8.out _ _).1) HI32ds.out HSZds.out (cellsOf_all _) ?_; refine gen_wpl (F := fun W => Brow W w8.heap.size 37 ds ∧ W.heap[w8.heap.size + 1]? = some (.cells (cellsOf zs32).toArray 37 (0, 0)) ∧ Below w8.heap.size w8 W) ⟨setRow_heap _ _ _ _ _ _ (HN8.out _ _).1, (setRow_otherB _ _ _ _ (by omega)).trans (HN8.out _ _).2, (((Below.refl w8.heap.size w8).alloc (Nat.le_refl _) _).alloc (by simp) _).setRow (Nat.le_refl _) _⟩ ?_; rintro w9a ⟨hx9, hz9, hb9⟩; have HA9a := Lib.hid hx9; have HZ9 := Lib.hid hz9; have HB9a := Lib.hid hb9; clear hx9 hz9 hb9) | (refine wpList_store_row (by rfl) 37 _ _ (by rfl) (w8.heap.size + 1) (cellsOf ds).toArray (by rfl) (by rfl) 37 (cellsOf zs32).toArray HZ9.out HI32ds.out HSZds.out (cellsOf_all _) ?_; refine gen_wpl (F := fun W => Brow W w8.heap.size 37 ds ∧ Brow W (w8.heap.size + 1) 37 ds ∧ Below w8.heap.size w8 W) ⟨(setRow_otherB _ _ _ _ (by omega)).trans HA9a.out, setRow_heap _ _ _ _ _ _ HZ9.out, HB9a.out.setRow (by omega) _⟩ ?_; rintro w9 ⟨hx9, hz9, hb9⟩; have HA9 := Lib.hid hx9; have HX9 := Lib.hid hz9; have HB89 := Lib.hid hb9; clear hx9 hz9 hb9) | (refine wpList_runG (by rfl) (.agg (cellsOf ds).toArray) (exec_loadD HA9.out HD32.out (x := .tmp 11) (by rfl) _ rfl) ?_) | (refine wpList_runG (by rfl) (.agg (cellsOf ds).toArray) (exec_loadD HX9.out HE32.out (x := .tmp 12) (by rfl) _ rfl) ?_) | (refine wpList_runG (by rfl) (.bool false) (exec_neqD HGT.out HEQ.out (x := .tmp 56) (y := .tmp 57) (by rfl) (by rfl) _ rfl _) ?_))
      obtain ⟨XA, hXA⟩ : ∃ XA, XA = w8.heap.size := ⟨_, rfl⟩
      obtain ⟨XB, hXB⟩ : ∃ XB, XB = w8.heap.size + 1 := ⟨_, rfl⟩
      rw [← hXB] at HX9 ⊢
      rw [← hXA] at HA9 ⊢
      have HXA := Lib.hid hXA
      have HXB := Lib.hid hXB
      clear hXA hXB
      have hbs9 := HBS8.out.with2 HB89.out XA XB (by rw [HXA.out]; exact Nat.le_refl _) (by rw [HXB.out]; omega) HA9.out.lt HX9.out.lt
      have HBS9 := Lib.hid hbs9
      have HB9 := Lib.hid (HB8.out.trans (HB89.out.mono HB8.out.size))
      clear hbs9 HB89 HXA HXB HN8 HBS8 HB8
      have HBS10 := HBS9
      have HB10 := HB9
      have HA10 := HA9
      have HX10 := HX9
      clear HBS9 HB9 HA9 HX9
      have h11 := badopt_c HBS10.out (Tab.below HT.out HB10.out HT.out.pos) (by omega) HT.out.pos (⟨#[103]⟩ : ByteArray) (by decide) ds HD32.out
      rw [ad_gone rfl ((made_now HLF.out _).trans ((if_neg (by decide)).trans HLG.out))] at h11
      have HC11 := Lib.hid h11
      clear h11
      refine HC11.out.mono ?_
      rintro e11 w11 ⟨rfl, k1, k2, k3⟩
      have HBS11 := Lib.hid k1
      have HB11 := Lib.hid (HB10.out.trans k2)
      have HA11 := Lib.hid (show Brow w11 XA 37 ds from (k3 XA (.inr (.inl rfl))).trans HA10.out)
      have HX11 := Lib.hid (show Brow w11 XB 37 ds from (k3 XB (.inr (.inr rfl))).trans HX10.out)
      clear k1 k2 k3 HC11 HBS10 HB10 HA10 HX10
      have h12 := badopt_c HBS11.out (Tab.below HT.out HB11.out HT.out.pos) (by omega) HT.out.pos (⟨#[102]⟩ : ByteArray) (by decide) ds HD32.out
      rw [HADO.out] at h12
      have HC12 := Lib.hid h12
      clear h12
      go_wp2_with (first | (refine wpList_runG (by rfl) (.agg (cellsOf ds).toArray) (exec_loadD HA11.out HD32.out (x := .tmp 11) (by rfl) _ rfl) ?_) | (refine wpList_runG (by rfl) (.agg (cellsOf ds).toArray) (exec_loadD HX11.out HE32.out (x := .tmp 12) (by rfl) _ rfl) ?_) | (refine wpList_runG (by rfl) (.bool false) (exec_neqD HGT.out HEQ.out (x := .tmp 56) (y := .tmp 57) (by rfl) (by rfl) _ rfl _) ?_))
      refine HC12.out.mono ?_
      rintro e12 w12 ⟨rfl, k1, k2, k3⟩
      have HBS12 := Lib.hid k1
      have HB12 := Lib.hid (HB11.out.trans k2)
      have HA12 := Lib.hid (show Brow w12 XA 37 ds from (k3 XA (.inr (.inl rfl))).trans HA11.out)
      have HX12 := Lib.hid (show Brow w12 XB 37 ds from (k3 XB (.inr (.inr rfl))).trans HX11.out)
      clear k1 k2 k3 HC12 HBS11 HB11 HA11 HX11
      have HLO := Lib.hid (show Calls Tryd.prog 26 #[.pointer (some ⟨d, 0, none⟩)] w12 fun e w' => e = .returned (.int .i64 0) ∧ w' = w12 from by
        obtain ⟨S, k1, k2, _⟩ := HBS12.out.dx.ex
        have h1 := dloose_c k1
        rw [k2.loose] at h1
        exact h1)
      have HWH := Lib.hid (show Calls Tryd.prog 19 #[.pointer (some ⟨sb, 0, none⟩), .agg (cellsOf ds).toArray] w12 fun e w' => e = .returned (.bool true) ∧ Below w12.heap.size w12 w' from by
        have h1 := bwhole_c HBS12.out ds HD32.out (Tab.below HT.out HB12.out HT.out.pos)
        have h2 := ck_one 2097152 (fileB ds) z0
        rw [HDS.out] at h2
        rw [h2] at h1
        exact h1)
      go_wp2_with (first | (refine wpList_runG (by rfl) (.agg (cellsOf ds).toArray) (exec_loadD HA12.out HD32.out (x := .tmp 11) (by rfl) _ rfl) ?_) | (refine wpList_runG (by rfl) (.agg (cellsOf ds).toArray) (exec_loadD HX12.out HE32.out (x := .tmp 12) (by rfl) _ rfl) ?_) | (refine wpList_runG (by rfl) (.bool false) (exec_neqD HGT.out HEQ.out (x := .tmp 56) (y := .tmp 57) (by rfl) (by rfl) _ rfl _) ?_))
      refine HLO.out.mono ?_
      rintro e13 w13 ⟨rfl, hw13⟩
      subst hw13
      go_wp2_with (first | (refine wpList_runG (by rfl) (.agg (cellsOf ds).toArray) (exec_loadD HA12.out HD32.out (x := .tmp 11) (by rfl) _ rfl) ?_) | (refine wpList_runG (by rfl) (.agg (cellsOf ds).toArray) (exec_loadD HX12.out HE32.out (x := .tmp 12) (by rfl) _ rfl) ?_) | (refine wpList_runG (by rfl) (.bool false) (exec_neqD HGT.out HEQ.out (x := .tmp 56) (y := .tmp 57) (by rfl) (by rfl) _ rfl _) ?_))
      refine HWH.out.mono ?_
      rintro e14 w14 ⟨rfl, hb14⟩
      have HBS14 := Lib.hid (HBS12.out.below hb14)
      have HB14 := Lib.hid (HB12.out.trans (hb14.mono HB12.out.size))
      have HA14 := Lib.hid (HA12.out.below hb14 HA12.out.lt)
      have HX14 := Lib.hid (HX12.out.below hb14 HX12.out.lt)
      have HUS := Lib.hid (show Calls Tryd.prog 20 #[.pointer (some ⟨d, 0, none⟩)] w14 fun e w' => e = .returned (.int .i64 (len0 : Int)) ∧ w' = w14 from by
        obtain ⟨S, k1, k2, _⟩ := HBS14.out.dx.ex
        have h1 := dused_c k1
        have h2 : S.used = (len0 : Int) := by
          rw [k2.used]
          show ((usedF [(fileB ds, z0)] : Nat) : Int) = _
          have h3 : usedF [(fileB ds, z0)] = z0.length := by simp [usedF]
          rw [h3, HZL.out]
        rw [h2] at h1
        exact h1)
      have hll : ((len0 : Int) != (len0 : Int)) = false := by simp
      clear hb14 HLO HWH HBS12 HB12 HA12 HX12
      go_wp2_with (first | (refine wpList_runG (by rfl) (.agg (cellsOf ds).toArray) (exec_loadD HA14.out HD32.out (x := .tmp 11) (by rfl) _ rfl) ?_) | (refine wpList_runG (by rfl) (.agg (cellsOf ds).toArray) (exec_loadD HX14.out HE32.out (x := .tmp 12) (by rfl) _ rfl) ?_) | (refine wpList_runG (by rfl) (.bool false) (exec_neqD HGT.out HEQ.out (x := .tmp 56) (y := .tmp 57) (by rfl) (by rfl) _ rfl _) ?_))
      refine HUS.out.mono ?_
      rintro e15 w15 ⟨rfl, hw15⟩
      subst hw15
      clear HUS
      have h16 := badopt_c HBS14.out (Tab.below HT.out HB14.out HT.out.pos) (by omega) HT.out.pos (⟨#[102]⟩ : ByteArray) (by decide) ds HD32.out
      rw [ad_gone rfl ((look_one _ _ _).trans (if_neg (fileB_ne ds HD32.out (by decide)).symm))] at h16
      have HC16 := Lib.hid h16
      clear h16
      go_wp2_with (first | (refine wpList_runG (by rfl) (.agg (cellsOf ds).toArray) (exec_loadD HA14.out HD32.out (x := .tmp 11) (by rfl) _ rfl) ?_) | (refine wpList_runG (by rfl) (.agg (cellsOf ds).toArray) (exec_loadD HX14.out HE32.out (x := .tmp 12) (by rfl) _ rfl) ?_) | (refine wpList_runG (by rfl) (.bool false) (exec_neqD HGT.out HEQ.out (x := .tmp 56) (y := .tmp 57) (by rfl) (by rfl) _ rfl _) ?_))
      refine HC16.out.mono ?_
      rintro e16 w16 ⟨rfl, k1, k2, k3⟩
      have HBS16 := Lib.hid k1
      have HB16 := Lib.hid (HB14.out.trans k2)
      have HA16 := Lib.hid (show Brow w16 XA 37 ds from (k3 XA (.inr (.inl rfl))).trans HA14.out)
      have HX16 := Lib.hid (show Brow w16 XB 37 ds from (k3 XB (.inr (.inr rfl))).trans HX14.out)
      clear k1 k2 k3 HC16 HBS14 HB14 HA14 HX14
      clear hll
      go_wp2_with fail
      go_ret
      exact ⟨rfl, HB16.out⟩
    · have HEQ := Lib.hid (fun W => show (Op.equalIn 10000 37 (.agg (cellsOf ds).toArray) (.agg (cellsOf dt).toArray)).run Tryd.prog W = .ok false W from by have := HEQ.out W; rwa [decide_eq_false hdt] at this)
      have HND := Lib.hid hdt
      clear hdt
      go_wp2_with (first | (refine wpList_store_row (by rfl) 37 _ _ (by rfl) w8.heap.size (cellsOf ds).toArray (by rfl) (by rfl) 37 (cellsOf zs32).toArray (by exact (HN8.out _ _).1) HI32ds.out HSZds.out (cellsOf_all _) ?_; refine gen_wpl (F := fun W => Brow W w8.heap.size 37 ds ∧ W.heap[w8.heap.size + 1]? = some (.cells (cellsOf zs32).toArray 37 (0, 0)) ∧ Below w8.heap.size w8 W) ⟨setRow_heap _ _ _ _ _ _ (HN8.out _ _).1, (setRow_otherB _ _ _ _ (by omega)).trans (HN8.out _ _).2, (((Below.refl w8.heap.size w8).alloc (Nat.le_refl _) _).alloc (by simp) _).setRow (Nat.le_refl _) _⟩ ?_; rintro w9a ⟨hx9, hz9, hb9⟩; have HA9a := Lib.hid hx9; have HZ9 := Lib.hid hz9; have HB9a := Lib.hid hb9; clear hx9 hz9 hb9) | (refine wpList_store_row (by rfl) 37 _ _ (by rfl) (w8.heap.size + 1) (cellsOf dt).toArray (by rfl) (by rfl) 37 (cellsOf zs32).toArray HZ9.out HI32dt.out HSZdt.out (cellsOf_all _) ?_; refine gen_wpl (F := fun W => Brow W w8.heap.size 37 ds ∧ Brow W (w8.heap.size + 1) 37 dt ∧ Below w8.heap.size w8 W) ⟨(setRow_otherB _ _ _ _ (by omega)).trans HA9a.out, setRow_heap _ _ _ _ _ _ HZ9.out, HB9a.out.setRow (by omega) _⟩ ?_; rintro w9 ⟨hx9, hz9, hb9⟩; have HA9 := Lib.hid hx9; have HX9 := Lib.hid hz9; have HB89 := Lib.hid hb9; clear hx9 hz9 hb9) | (refine wpList_runG (by rfl) (.agg (cellsOf ds).toArray) (exec_loadD HA9.out HD32.out (x := .tmp 11) (by rfl) _ rfl) ?_) | (refine wpList_runG (by rfl) (.agg (cellsOf dt).toArray) (exec_loadD HX9.out HE32.out (x := .tmp 12) (by rfl) _ rfl) ?_) | (refine wpList_runG (by rfl) (.bool true) (exec_neqD HGT.out HEQ.out (x := .tmp 56) (y := .tmp 57) (by rfl) (by rfl) _ rfl _) ?_))
      obtain ⟨XA, hXA⟩ : ∃ XA, XA = w8.heap.size := ⟨_, rfl⟩
      obtain ⟨XB, hXB⟩ : ∃ XB, XB = w8.heap.size + 1 := ⟨_, rfl⟩
      rw [← hXB] at HX9 ⊢
      rw [← hXA] at HA9 ⊢
      have HXA := Lib.hid hXA
      have HXB := Lib.hid hXB
      clear hXA hXB
      have hbs9 := HBS8.out.with2 HB89.out XA XB (by rw [HXA.out]; exact Nat.le_refl _) (by rw [HXB.out]; omega) HA9.out.lt HX9.out.lt
      have HBS9 := Lib.hid hbs9
      have HB9 := Lib.hid (HB8.out.trans (HB89.out.mono HB8.out.size))
      clear hbs9 HB89 HXA HXB HN8 HBS8 HB8
      have h10 := badopt_c HBS9.out (Tab.below HT.out HB9.out HT.out.pos) (by omega) HT.out.pos (⟨#[102]⟩ : ByteArray) (by decide) dt HE32.out
      rw [ad_bad (z := z0) rfl ((made_now HLF.out _).trans (if_pos rfl)) (by rw [HDS.out]; exact HND.out)] at h10
      have HC10 := Lib.hid h10
      clear h10
      refine HC10.out.mono ?_
      rintro e10 w10 ⟨rfl, k1, k2, k3⟩
      have HBS10 := Lib.hid k1
      have HB10 := Lib.hid (HB9.out.trans k2)
      have HA10 := Lib.hid (show Brow w10 XA 37 ds from (k3 XA (.inr (.inl rfl))).trans HA9.out)
      have HX10 := Lib.hid (show Brow w10 XB 37 dt from (k3 XB (.inr (.inr rfl))).trans HX9.out)
      clear k1 k2 k3 HC10 HBS9 HB9 HA9 HX9
      have h11 := badopt_c HBS10.out (Tab.below HT.out HB10.out HT.out.pos) (by omega) HT.out.pos (⟨#[103]⟩ : ByteArray) (by decide) ds HD32.out
      rw [ad_gone rfl ((made_now HLF.out _).trans ((if_neg (by decide)).trans HLG.out))] at h11
      have HC11 := Lib.hid h11
      clear h11
      go_wp2_with (first | (refine wpList_runG (by rfl) (.agg (cellsOf ds).toArray) (exec_loadD HA10.out HD32.out (x := .tmp 11) (by rfl) _ rfl) ?_) | (refine wpList_runG (by rfl) (.agg (cellsOf dt).toArray) (exec_loadD HX10.out HE32.out (x := .tmp 12) (by rfl) _ rfl) ?_) | (refine wpList_runG (by rfl) (.bool true) (exec_neqD HGT.out HEQ.out (x := .tmp 56) (y := .tmp 57) (by rfl) (by rfl) _ rfl _) ?_))
      refine HC11.out.mono ?_
      rintro e11 w11 ⟨rfl, k1, k2, k3⟩
      have HBS11 := Lib.hid k1
      have HB11 := Lib.hid (HB10.out.trans k2)
      have HA11 := Lib.hid (show Brow w11 XA 37 ds from (k3 XA (.inr (.inl rfl))).trans HA10.out)
      have HX11 := Lib.hid (show Brow w11 XB 37 dt from (k3 XB (.inr (.inr rfl))).trans HX10.out)
      clear k1 k2 k3 HC11 HBS10 HB10 HA10 HX10
      have h12 := badopt_c HBS11.out (Tab.below HT.out HB11.out HT.out.pos) (by omega) HT.out.pos (⟨#[102]⟩ : ByteArray) (by decide) ds HD32.out
      rw [HADO.out] at h12
      have HC12 := Lib.hid h12
      clear h12
      go_wp2_with (first | (refine wpList_runG (by rfl) (.agg (cellsOf ds).toArray) (exec_loadD HA11.out HD32.out (x := .tmp 11) (by rfl) _ rfl) ?_) | (refine wpList_runG (by rfl) (.agg (cellsOf dt).toArray) (exec_loadD HX11.out HE32.out (x := .tmp 12) (by rfl) _ rfl) ?_) | (refine wpList_runG (by rfl) (.bool true) (exec_neqD HGT.out HEQ.out (x := .tmp 56) (y := .tmp 57) (by rfl) (by rfl) _ rfl _) ?_))
      refine HC12.out.mono ?_
      rintro e12 w12 ⟨rfl, k1, k2, k3⟩
      have HBS12 := Lib.hid k1
      have HB12 := Lib.hid (HB11.out.trans k2)
      have HA12 := Lib.hid (show Brow w12 XA 37 ds from (k3 XA (.inr (.inl rfl))).trans HA11.out)
      have HX12 := Lib.hid (show Brow w12 XB 37 dt from (k3 XB (.inr (.inr rfl))).trans HX11.out)
      clear k1 k2 k3 HC12 HBS11 HB11 HA11 HX11
      have HLO := Lib.hid (show Calls Tryd.prog 26 #[.pointer (some ⟨d, 0, none⟩)] w12 fun e w' => e = .returned (.int .i64 0) ∧ w' = w12 from by
        obtain ⟨S, k1, k2, _⟩ := HBS12.out.dx.ex
        have h1 := dloose_c k1
        rw [k2.loose] at h1
        exact h1)
      have HWH := Lib.hid (show Calls Tryd.prog 19 #[.pointer (some ⟨sb, 0, none⟩), .agg (cellsOf ds).toArray] w12 fun e w' => e = .returned (.bool true) ∧ Below w12.heap.size w12 w' from by
        have h1 := bwhole_c HBS12.out ds HD32.out (Tab.below HT.out HB12.out HT.out.pos)
        have h2 := ck_one 2097152 (fileB ds) z0
        rw [HDS.out] at h2
        rw [h2] at h1
        exact h1)
      go_wp2_with (first | (refine wpList_runG (by rfl) (.agg (cellsOf ds).toArray) (exec_loadD HA12.out HD32.out (x := .tmp 11) (by rfl) _ rfl) ?_) | (refine wpList_runG (by rfl) (.agg (cellsOf dt).toArray) (exec_loadD HX12.out HE32.out (x := .tmp 12) (by rfl) _ rfl) ?_) | (refine wpList_runG (by rfl) (.bool true) (exec_neqD HGT.out HEQ.out (x := .tmp 56) (y := .tmp 57) (by rfl) (by rfl) _ rfl _) ?_))
      refine HLO.out.mono ?_
      rintro e13 w13 ⟨rfl, hw13⟩
      subst hw13
      go_wp2_with (first | (refine wpList_runG (by rfl) (.agg (cellsOf ds).toArray) (exec_loadD HA12.out HD32.out (x := .tmp 11) (by rfl) _ rfl) ?_) | (refine wpList_runG (by rfl) (.agg (cellsOf dt).toArray) (exec_loadD HX12.out HE32.out (x := .tmp 12) (by rfl) _ rfl) ?_) | (refine wpList_runG (by rfl) (.bool true) (exec_neqD HGT.out HEQ.out (x := .tmp 56) (y := .tmp 57) (by rfl) (by rfl) _ rfl _) ?_))
      refine HWH.out.mono ?_
      rintro e14 w14 ⟨rfl, hb14⟩
      have HBS14 := Lib.hid (HBS12.out.below hb14)
      have HB14 := Lib.hid (HB12.out.trans (hb14.mono HB12.out.size))
      have HA14 := Lib.hid (HA12.out.below hb14 HA12.out.lt)
      have HX14 := Lib.hid (HX12.out.below hb14 HX12.out.lt)
      have HUS := Lib.hid (show Calls Tryd.prog 20 #[.pointer (some ⟨d, 0, none⟩)] w14 fun e w' => e = .returned (.int .i64 (len0 : Int)) ∧ w' = w14 from by
        obtain ⟨S, k1, k2, _⟩ := HBS14.out.dx.ex
        have h1 := dused_c k1
        have h2 : S.used = (len0 : Int) := by
          rw [k2.used]
          show ((usedF [(fileB ds, z0)] : Nat) : Int) = _
          have h3 : usedF [(fileB ds, z0)] = z0.length := by simp [usedF]
          rw [h3, HZL.out]
        rw [h2] at h1
        exact h1)
      have hll : ((len0 : Int) != (len0 : Int)) = false := by simp
      clear hb14 HLO HWH HBS12 HB12 HA12 HX12
      go_wp2_with (first | (refine wpList_runG (by rfl) (.agg (cellsOf ds).toArray) (exec_loadD HA14.out HD32.out (x := .tmp 11) (by rfl) _ rfl) ?_) | (refine wpList_runG (by rfl) (.agg (cellsOf dt).toArray) (exec_loadD HX14.out HE32.out (x := .tmp 12) (by rfl) _ rfl) ?_) | (refine wpList_runG (by rfl) (.bool true) (exec_neqD HGT.out HEQ.out (x := .tmp 56) (y := .tmp 57) (by rfl) (by rfl) _ rfl _) ?_))
      refine HUS.out.mono ?_
      rintro e15 w15 ⟨rfl, hw15⟩
      subst hw15
      clear HUS
      have h16 := badopt_c HBS14.out (Tab.below HT.out HB14.out HT.out.pos) (by omega) HT.out.pos (⟨#[102]⟩ : ByteArray) (by decide) ds HD32.out
      rw [ad_gone rfl ((look_one _ _ _).trans (if_neg (fileB_ne ds HD32.out (by decide)).symm))] at h16
      have HC16 := Lib.hid h16
      clear h16
      go_wp2_with (first | (refine wpList_runG (by rfl) (.agg (cellsOf ds).toArray) (exec_loadD HA14.out HD32.out (x := .tmp 11) (by rfl) _ rfl) ?_) | (refine wpList_runG (by rfl) (.agg (cellsOf dt).toArray) (exec_loadD HX14.out HE32.out (x := .tmp 12) (by rfl) _ rfl) ?_) | (refine wpList_runG (by rfl) (.bool true) (exec_neqD HGT.out HEQ.out (x := .tmp 56) (y := .tmp 57) (by rfl) (by rfl) _ rfl _) ?_))
      refine HC16.out.mono ?_
      rintro e16 w16 ⟨rfl, k1, k2, k3⟩
      have HBS16 := Lib.hid k1
      have HB16 := Lib.hid (HB14.out.trans k2)
      have HA16 := Lib.hid (show Brow w16 XA 37 ds from (k3 XA (.inr (.inl rfl))).trans HA14.out)
      have HX16 := Lib.hid (show Brow w16 XB 37 dt from (k3 XB (.inr (.inr rfl))).trans HX14.out)
      clear k1 k2 k3 HC16 HBS14 HB14 HA14 HX14
      clear hll
      go_wp2_with fail
      go_ret
      exact ⟨rfl, HB16.out⟩
    
end Go.Proofs.YtcjlbonflecbkaaDoor
