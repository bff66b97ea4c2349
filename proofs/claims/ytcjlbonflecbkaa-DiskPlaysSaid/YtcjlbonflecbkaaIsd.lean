/-
  Whether a disk in memory is the document's: the law's own question.
-/
import Derived.Test.YtcjlbonflecbkaaTwo
import Derived.Test.YtcjlbonflecbkaaJpk
import Derived.BigQuiet
namespace Go.Proofs.Ytcjlbonflecbkaa
open Go.RowKit Go.Maps Go.Sort
set_option linter.unusedVariables false
theorem run_cell_bo (W : World) (a : Addr) (v : Bool) (hc : W.cell? a = some (.bool v)) : (Instr.loadAt 4 (.pointer (some a))).run Try.prog W = .ok (.bool v) W := by go_simp
theorem names_all (l : Fls) : namesF l ⟨#[]⟩ = l.map (·.1) := by
  unfold namesF
  refine List.filter_eq_self.2 fun x _ => ?_
  rfl
theorem rd_own {w : World} {B vn vc : Nat} {va : Option Addr} {fz : List Nat} (h : Own w B (.slice va vn vc) fz) (hn : vn = fz.length) (hz : ∀ z ∈ fz, z < 256) : Rd w va vn fz ∧ vn ≤ 9223372036854775807 := by
  obtain ⟨a, cap, h1, h2, h3, h4⟩ := h.rd hz
  obtain ⟨e1, e2, e3⟩ := Value.slice.inj h1
  subst e1
  subst hn
  exact ⟨h4, by omega⟩
theorem run_sidx (W : World) (b o len cap i : Nat) (hi : i < len) : (Instr.indexAt 64 (.slice (some ⟨b, o, none⟩) len cap) (.int .i64 (i : Int))).run Try.prog W = .ok (.pointer (some ⟨b, o + i, none⟩)) W := by
  rw [run_indexAt_slice W 64 ⟨b, o, none⟩ len cap .i64 (i : Int) (by kernel_rfl)]
  have h1 : (0 : Int) ≤ (i : Int) ∧ (i : Int) < (len : Int) := by omega
  rw [if_pos h1, show (Go.sizeOf (Try.prog.elem 64)).run Try.prog W = .ok 1 W from by kernel_rfl]
  simp [Result.andThen, Addr.add]
theorem exec_sidx0 {b len cap i : Nat} (hi : i < len) {A : Act} {x y : Operand} (hx : A.eval x = .slice (some ⟨b, 0, none⟩) len cap) (hy : A.eval y = .int .i64 (i : Int)) (op : Oper) (ho : op.op = .indexAddr 64 x y) (W : World) :
    (execOp A.eval op).run Try.prog W = .ok (.value (.pointer (some ⟨b, i, none⟩))) W := by
  unfold execOp
  simp only [ho, hx, hy]
  rw [Sem.run_bind, run_sidx W b 0 len cap i hi, Nat.zero_add]
  rfl
/-- cells of strings -/
theorem OwnS.cell {w : World} {B n c : Nat} {a : Option Addr} {cs : List ByteArray} (h : OwnS w B (.slice a n c) cs) (hn : n = cs.length) {i : Nat} {s : ByteArray} (hs : cs[i]? = some s) : ∃ g, a = some ⟨g, 0, none⟩ ∧ g < w.heap.size ∧ w.cell? ⟨g, i, none⟩ = some (.string s) := by
  have hi := (List.getElem?_eq_some_iff.1 hs).1
  rcases h.2 with ⟨h1, h2⟩ | ⟨g, c', cur, h1, h2, h3, h4, h5, h6, h7⟩
  · omega
  · obtain ⟨e1, e2, e3⟩ := Value.slice.inj h1
    subst e1
    refine ⟨g, rfl, (Array.getElem?_eq_some_iff.1 h3).1, ?_⟩
    rw [cell_of_row w g i cur _ _ h3, ← Array.getElem?_toList]
    have h8 := congrArg (fun l => l[i]?) h7
    simp only [List.getElem?_map, hs, Option.map_some, List.getElem?_take] at h8
    rw [if_pos (by omega)] at h8
    exact h8
set_option maxRecDepth 100000 in
set_option maxHeartbeats 8000000 in
theorem is_c {X : Nat → Prop} {B d m N k0 : Nat} {A : Ad} {w : World} (h : Rel X B d m N A A w) (hbd : Bnd k0 A) (hk0 : k0 ≤ 1000) :
    Calls Try.prog 11 #[.pointer (some ⟨d, 0, none⟩), .pointer (some ⟨m, 0, none⟩)] w fun e w' => e = .returned (.bool true) ∧ Below w.heap.size w w' := by
  have hg := h.gd
  have hnl := hg.now hbd
  have hdR := h.below (w' := World.drew w) (below_drewN' _ w 1)
  obtain ⟨S, lv, h1, h2, h3, h4⟩ := hdR.ex
  obtain ⟨na, nn, nc, sa, sn, sc, ⟨c0, c1, c2, c3, c4, c5⟩, -, hnow, -⟩ := h3.cells
  obtain ⟨la, lc, hlv, hlc, -⟩ := h3.lcell
  obtain ⟨dn, hdn⟩ : ∃ dn, A.down = dn := ⟨_, rfl⟩
  obtain ⟨u, hu⟩ : ∃ u, usedF A.now = u := ⟨_, rfl⟩
  obtain ⟨ll, hll⟩ : ∃ ll, A.loose.length = ll := ⟨_, rfl⟩
  have hlb : ll ≤ 1000 := by unfold Bnd at hbd; omega
  rw [hlv, hll] at c3
  rw [hdn] at c5
  have hnn : nn ≤ 1000 := by have := hnow.ln; omega
  have hu2 := hg.used
  have HC1 := Lib.hid (ddown_c h1)
  rw [h2.down, hdn] at HC1
  have HC2 := Lib.hid (dused_c h1)
  rw [h2.used, hu] at HC2
  have HC3 := Lib.hid (rused_c (cap := nc) hnow (by omega) (by omega))
  rw [hu] at HC3
  have HC4 := Lib.hid (dloose_c h1)
  rw [h2.loose, hll] at HC4
  have HNM := Lib.hid (anames h1 h2 ⟨#[]⟩ (by omega))
  have HRW := Lib.hid hnow
  have HLN := Lib.hid hnow.ln
  have HR := Lib.hid hdR
  have HG := Lib.hid hg
  have HDN := Lib.hid hdn
  have HMC := Lib.hid c1
  have HMD := Lib.hid c5
  have hm5 : (World.drew w).cell? ⟨m, 5, none⟩ = some (.bool dn) := c5
  have hmlt := h3.lt
  have huu : ((u : Int) != (u : Int)) = false := by simp
  have hlll : ((ll : Int) != (ll : Int)) = false := by simp
  clear h h1 h2 h3 h4 hdR hg hnow hdn hu hll hlv hbd c0 c2 c4 hu2 hnl hm5
  go_enter Try.func11, Try.ntmps11
  go_upto_region 1 with fail
  have HS := Lib.hid (show World.drew w = World.drew w from rfl)
  have HL5 := Lib.hid (fun W (hW : W = World.drew w) => run_cell_bo W ⟨m, 5, none⟩ dn (by rw [hW]; exact c5))
  have HL1 := Lib.hid (fun W (hW : W = World.drew w) => run_cell_fl W ⟨m, 1, none⟩ na nn nc (by rw [hW]; exact c1))
  have HL3 := Lib.hid (fun W (hW : W = World.drew w) => run_cell_cs W ⟨m, 3, none⟩ la ll lc (by rw [hW]; exact c3))
  clear c1 c3 c5
  refine anyH_begin (S := fun W => W = World.drew w) (by kernel_rfl) ?_
  refine anyH_pureG 0 (d := 13) (op := .move (.tmp 0)) (gd := none) (.pointer (some ⟨d, 0, none⟩)) (by rfl) (fun o ho => wanted_plain ho _) (by kernel_rfl) (by kernel_rfl) (by kernel_rfl) (fun _ _ _ h => h) (fun o ho W hW => by unfold execOp; simp only [ho]; go_simp) HS.out ?_
  simp only [Act.put, List.setIfInBounds_toArray, List.set_cons_zero, List.set_cons_succ]
  refine anyH_pureG 2 (d := 15) (op := .move (.tmp 1)) (gd := none) (.pointer (some ⟨m, 0, none⟩)) (by rfl) (fun o ho => wanted_plain ho _) (by kernel_rfl) (by kernel_rfl) (by kernel_rfl) (fun _ _ _ h => h) (fun o ho W hW => by unfold execOp; simp only [ho]; go_simp) HS.out ?_
  simp only [Act.put, List.setIfInBounds_toArray, List.set_cons_zero, List.set_cons_succ]
  refine anyH_pureG 3 (d := 16) (op := .nilCheck (.tmp 15)) (gd := none) (.pointer (some ⟨m, 0, none⟩)) (by rfl) (fun o ho => wanted_plain ho _) (by kernel_rfl) (by kernel_rfl) (by kernel_rfl) (fun _ _ _ h => h) (fun o ho W hW => by unfold execOp; simp only [ho]; go_simp) HS.out ?_
  simp only [Act.put, List.setIfInBounds_toArray, List.set_cons_zero, List.set_cons_succ]
  refine anyH_pureG 4 (d := 17) (op := .fieldAddr 91 (.tmp 16) 5) (gd := none) (.pointer (some ⟨m, 5, none⟩)) (by rfl) (fun o ho => wanted_plain ho _) (by kernel_rfl) (by kernel_rfl) (by kernel_rfl) (fun _ _ _ h => h) (fun o ho W hW => by unfold execOp; simp only [ho]; go_simp) HS.out ?_
  simp only [Act.put, List.setIfInBounds_toArray, List.set_cons_zero, List.set_cons_succ]
  refine anyH_loadG 5 (d := 18) (ty := 4) (x := (.tmp 17)) (gd := none) (p := .pointer (some ⟨m, 5, none⟩)) (.bool dn) (by rfl) (fun o ho => wanted_plain ho _) (by kernel_rfl) (by kernel_rfl) (by kernel_rfl) (fun _ _ _ h => h) (by rfl) HL5.out HS.out ?_
  simp only [Act.put, List.setIfInBounds_toArray, List.set_cons_zero, List.set_cons_succ]
  refine anyH_callG 1 (d := some 14) (f := 18) (xs := #[(.tmp 13)]) (ts := #[24]) (gd := none) (vs := #[.pointer (some ⟨d, 0, none⟩)]) (by kernel_rfl) (by rfl) (fun o ho => wanted_plain ho _) (by go_simp) (by go_simp) (HC1.out) ?_
  rintro e91 w91 ⟨rfl, rfl⟩
  refine ⟨_, rfl, HS.out, fun hS91 => ?_⟩
  clear hS91
  simp only [Act.put, List.setIfInBounds_toArray, List.set_cons_zero, List.set_cons_succ]
  refine anyH_pureG 6 (d := 19) (op := .binOp .neq 4 (.tmp 14) (.tmp 18) 4) (gd := none) (.bool false) (by rfl) (fun o ho => wanted_plain ho _) (by kernel_rfl) (by kernel_rfl) (by kernel_rfl) (fun _ _ _ h => h) (fun o1 ho W hW => by unfold execOp; simp only [ho]; go_simp; try simp) HS.out ?_
  simp only [Act.put, List.setIfInBounds_toArray, List.set_cons_zero, List.set_cons_succ]
  refine anyH_pureG 7 (d := 20) (op := .move (.tmp 19)) (gd := none) (.bool false) (by rfl) (fun o ho => wanted_plain ho _) (by kernel_rfl) (by kernel_rfl) (by kernel_rfl) (fun _ _ _ h => h) (fun o ho W hW => by unfold execOp; simp only [ho]; go_simp) HS.out ?_
  simp only [Act.put, List.setIfInBounds_toArray, List.set_cons_zero, List.set_cons_succ]
  refine anyH_pureG 8 (d := 21) (op := .move (.tmp 0)) (gd := some (7, false)) (.pointer (some ⟨d, 0, none⟩)) (by rfl) (fun o ho => by simp only [Region.wanted, ho]; rfl) (by kernel_rfl) (by kernel_rfl) (by kernel_rfl) (fun _ _ _ h => h) (fun o ho W hW => by unfold execOp; simp only [ho]; go_simp) HS.out ?_
  simp only [Act.put, List.setIfInBounds_toArray, List.set_cons_zero, List.set_cons_succ]
  refine anyH_pureG 10 (d := 23) (op := .move (.tmp 1)) (gd := some (7, false)) (.pointer (some ⟨m, 0, none⟩)) (by rfl) (fun o ho => by simp only [Region.wanted, ho]; rfl) (by kernel_rfl) (by kernel_rfl) (by kernel_rfl) (fun _ _ _ h => h) (fun o ho W hW => by unfold execOp; simp only [ho]; go_simp) HS.out ?_
  simp only [Act.put, List.setIfInBounds_toArray, List.set_cons_zero, List.set_cons_succ]
  refine anyH_pureG 11 (d := 24) (op := .nilCheck (.tmp 23)) (gd := some (7, false)) (.pointer (some ⟨m, 0, none⟩)) (by rfl) (fun o ho => by simp only [Region.wanted, ho]; rfl) (by kernel_rfl) (by kernel_rfl) (by kernel_rfl) (fun _ _ _ h => h) (fun o ho W hW => by unfold execOp; simp only [ho]; go_simp) HS.out ?_
  simp only [Act.put, List.setIfInBounds_toArray, List.set_cons_zero, List.set_cons_succ]
  refine anyH_pureG 12 (d := 25) (op := .fieldAddr 91 (.tmp 24) 1) (gd := some (7, false)) (.pointer (some ⟨m, 1, none⟩)) (by rfl) (fun o ho => by simp only [Region.wanted, ho]; rfl) (by kernel_rfl) (by kernel_rfl) (by kernel_rfl) (fun _ _ _ h => h) (fun o ho W hW => by unfold execOp; simp only [ho]; go_simp) HS.out ?_
  simp only [Act.put, List.setIfInBounds_toArray, List.set_cons_zero, List.set_cons_succ]
  refine anyH_loadG 13 (d := 26) (ty := 88) (x := (.tmp 25)) (gd := some (7, false)) (p := .pointer (some ⟨m, 1, none⟩)) (.slice na nn nc) (by rfl) (fun o ho => by simp only [Region.wanted, ho]; rfl) (by kernel_rfl) (by kernel_rfl) (by kernel_rfl) (fun _ _ _ h => h) (by rfl) HL1.out HS.out ?_
  simp only [Act.put, List.setIfInBounds_toArray, List.set_cons_zero, List.set_cons_succ]
  refine anyH_callG 9 (d := some 22) (f := 51) (xs := #[(.tmp 21)]) (ts := #[24]) (gd := some (7, false)) (vs := #[.pointer (some ⟨d, 0, none⟩)]) (by kernel_rfl) (by rfl) (fun o ho => by simp only [Region.wanted, ho]; rfl) (by go_simp) (by go_simp) (HC2.out) ?_
  rintro e92 w92 ⟨rfl, rfl⟩
  refine ⟨_, rfl, HS.out, fun hS92 => ?_⟩
  clear hS92
  simp only [Act.put, List.setIfInBounds_toArray, List.set_cons_zero, List.set_cons_succ]
  refine anyH_callG 14 (d := some 27) (f := 52) (xs := #[(.tmp 26)]) (ts := #[88]) (gd := some (7, false)) (vs := #[.slice na nn nc]) (by kernel_rfl) (by rfl) (fun o ho => by simp only [Region.wanted, ho]; rfl) (by go_simp) (by go_simp) (HC3.out) ?_
  rintro e93 w93 ⟨rfl, rfl⟩
  refine ⟨_, rfl, HS.out, fun hS93 => ?_⟩
  clear hS93
  simp only [Act.put, List.setIfInBounds_toArray, List.set_cons_zero, List.set_cons_succ]
  refine anyH_pureG 15 (d := 28) (op := .binOp .neq 3 (.tmp 22) (.tmp 27) 3) (gd := some (7, false)) (.bool false) (by rfl) (fun o ho => by simp only [Region.wanted, ho]; rfl) (by kernel_rfl) (by kernel_rfl) (by kernel_rfl) (fun _ _ _ h => h) (fun o1 ho W hW => by unfold execOp; simp only [ho]; go_simp; try simp) HS.out ?_
  simp only [Act.put, List.setIfInBounds_toArray, List.set_cons_zero, List.set_cons_succ]
  refine anyH_pureG 16 (d := 29) (op := .pick (.tmp 20) (.const (.bool true)) (.tmp 28)) (gd := none) (.bool false) (by rfl) (fun o ho => wanted_plain ho _) (by kernel_rfl) (by kernel_rfl) (by kernel_rfl) (fun _ _ _ h => h) (fun o ho W hW => by unfold execOp; simp only [ho]; go_simp) HS.out ?_
  simp only [Act.put, List.setIfInBounds_toArray, List.set_cons_zero, List.set_cons_succ]
  refine anyH_pureG 17 (d := 30) (op := .move (.tmp 29)) (gd := none) (.bool false) (by rfl) (fun o ho => wanted_plain ho _) (by kernel_rfl) (by kernel_rfl) (by kernel_rfl) (fun _ _ _ h => h) (fun o ho W hW => by unfold execOp; simp only [ho]; go_simp) HS.out ?_
  simp only [Act.put, List.setIfInBounds_toArray, List.set_cons_zero, List.set_cons_succ]
  refine anyH_pureG 18 (d := 31) (op := .move (.tmp 0)) (gd := some (17, false)) (.pointer (some ⟨d, 0, none⟩)) (by rfl) (fun o ho => by simp only [Region.wanted, ho]; rfl) (by kernel_rfl) (by kernel_rfl) (by kernel_rfl) (fun _ _ _ h => h) (fun o ho W hW => by unfold execOp; simp only [ho]; go_simp) HS.out ?_
  simp only [Act.put, List.setIfInBounds_toArray, List.set_cons_zero, List.set_cons_succ]
  refine anyH_pureG 20 (d := 33) (op := .move (.tmp 1)) (gd := some (17, false)) (.pointer (some ⟨m, 0, none⟩)) (by rfl) (fun o ho => by simp only [Region.wanted, ho]; rfl) (by kernel_rfl) (by kernel_rfl) (by kernel_rfl) (fun _ _ _ h => h) (fun o ho W hW => by unfold execOp; simp only [ho]; go_simp) HS.out ?_
  simp only [Act.put, List.setIfInBounds_toArray, List.set_cons_zero, List.set_cons_succ]
  refine anyH_pureG 21 (d := 34) (op := .nilCheck (.tmp 33)) (gd := some (17, false)) (.pointer (some ⟨m, 0, none⟩)) (by rfl) (fun o ho => by simp only [Region.wanted, ho]; rfl) (by kernel_rfl) (by kernel_rfl) (by kernel_rfl) (fun _ _ _ h => h) (fun o ho W hW => by unfold execOp; simp only [ho]; go_simp) HS.out ?_
  simp only [Act.put, List.setIfInBounds_toArray, List.set_cons_zero, List.set_cons_succ]
  refine anyH_pureG 22 (d := 35) (op := .fieldAddr 91 (.tmp 34) 3) (gd := some (17, false)) (.pointer (some ⟨m, 3, none⟩)) (by rfl) (fun o ho => by simp only [Region.wanted, ho]; rfl) (by kernel_rfl) (by kernel_rfl) (by kernel_rfl) (fun _ _ _ h => h) (fun o ho W hW => by unfold execOp; simp only [ho]; go_simp) HS.out ?_
  simp only [Act.put, List.setIfInBounds_toArray, List.set_cons_zero, List.set_cons_succ]
  refine anyH_loadG 23 (d := 36) (ty := 89) (x := (.tmp 35)) (gd := some (17, false)) (p := .pointer (some ⟨m, 3, none⟩)) (.slice la ll lc) (by rfl) (fun o ho => by simp only [Region.wanted, ho]; rfl) (by kernel_rfl) (by kernel_rfl) (by kernel_rfl) (fun _ _ _ h => h) (by rfl) HL3.out HS.out ?_
  simp only [Act.put, List.setIfInBounds_toArray, List.set_cons_zero, List.set_cons_succ]
  refine anyH_pureG 24 (d := 37) (op := .call { callee := .builtin .len, args := #[(.tmp 36)], argTypes := #[89] }) (gd := some (17, false)) (.int .i64 (ll : Int)) (by rfl) (fun o ho => by simp only [Region.wanted, ho]; rfl) (by kernel_rfl) (by kernel_rfl) (by kernel_rfl) (fun _ _ _ h => h) (fun o ho W hW => by unfold execOp; simp only [ho]; go_simp) HS.out ?_
  simp only [Act.put, List.setIfInBounds_toArray, List.set_cons_zero, List.set_cons_succ]
  refine anyH_callG 19 (d := some 32) (f := 53) (xs := #[(.tmp 31)]) (ts := #[24]) (gd := some (17, false)) (vs := #[.pointer (some ⟨d, 0, none⟩)]) (by kernel_rfl) (by rfl) (fun o ho => by simp only [Region.wanted, ho]; rfl) (by go_simp) (by go_simp) (HC4.out) ?_
  rintro e94 w94 ⟨rfl, rfl⟩
  refine ⟨_, rfl, HS.out, fun hS94 => ?_⟩
  clear hS94
  simp only [Act.put, List.setIfInBounds_toArray, List.set_cons_zero, List.set_cons_succ]
  refine anyH_pureG 25 (d := 38) (op := .binOp .neq 3 (.tmp 32) (.tmp 37) 3) (gd := some (17, false)) (.bool false) (by rfl) (fun o ho => by simp only [Region.wanted, ho]; rfl) (by kernel_rfl) (by kernel_rfl) (by kernel_rfl) (fun _ _ _ h => h) (fun o1 ho W hW => by unfold execOp; simp only [ho]; go_simp; try simp) HS.out ?_
  simp only [Act.put, List.setIfInBounds_toArray, List.set_cons_zero, List.set_cons_succ]
  refine anyH_pureG 26 (d := 39) (op := .pick (.tmp 30) (.const (.bool true)) (.tmp 38)) (gd := none) (.bool false) (by rfl) (fun o ho => wanted_plain ho _) (by kernel_rfl) (by kernel_rfl) (by kernel_rfl) (fun _ _ _ h => h) (fun o ho W hW => by unfold execOp; simp only [ho]; go_simp) HS.out ?_
  simp only [Act.put, List.setIfInBounds_toArray, List.set_cons_zero, List.set_cons_succ]
  refine wpAnyH_done (by kernel_rfl) ?_ _
  clear HS HL5 HL1 HL3 HC1 HC2 HC3 HC4 huu hlll
  go_wp2_with fail
  unfold NmA at HNM
  cases dn with
  | true =>
    rw [HDN.out] at HNM
    simp only [if_true] at HNM
    refine HNM.out.mono ?_
    rintro e2 w2 ⟨rfl, rfl⟩
    have c5 := HMD.out
    clear HNM HMD HMC HDN HRW HLN HR HG
    go_wp2_with fail
    go_ret
    exact ⟨rfl, below_drewN' _ w 1⟩
  | false =>
    rw [HDN.out] at HNM
    simp only [Bool.false_eq_true, if_false] at HNM
    refine HNM.out.mono ?_
    rintro e4 w4 ⟨la2, ln, lc2, rfl, hown, hln, hb4⟩
    rw [names_all] at hown hln
    rw [List.length_map, ← HLN.out] at hln
    subst hln
    have HOW := Lib.hid hown
    have c5 := (hb4.cell (p := ⟨m, 5, none⟩) hmlt).trans HMD.out
    have c1 := (hb4.cell (p := ⟨m, 1, none⟩) hmlt).trans HMC.out
    have HB4 := Lib.hid hb4
    clear HNM HMD HMC hown hb4
    have hnnn : ((ln : Int) != (ln : Int)) = false := by simp
    go_wp2_with fail
    clear c5 c1 hnnn
    go_loopw [73] (fun i wr => ∃ k : Nat, k ≤ ln ∧ i = .int .i64 k ∧ Hid (Below w4.heap.size w4 wr)) (fun i _ => ln - (intOf i).toNat)
    case atStart => exact ⟨0, Nat.zero_le _, rfl, Lib.hid (Below.refl _ _)⟩
    case round =>
      obtain ⟨k, hk, rfl, HB⟩ := hrel
      by_cases hkn : k < ln
      · obtain ⟨b, o, f, ra, rn, rc, hna, hb, hf, d0, d1, hrb⟩ := HRW.out.at hkn
        subst hna
        obtain ⟨fn, fz⟩ := f
        have hbw := Nat.lt_of_lt_of_le hb HB4.out.size
        have c0 := (HB.out.cell (p := ⟨b, o + 2 * k, none⟩) hbw).trans ((HB4.out.cell (p := ⟨b, o + 2 * k, none⟩) hb).trans d0)
        have c1 := (HB.out.cell (p := ⟨b, o + 2 * k + 1, none⟩) hbw).trans ((HB4.out.cell (p := ⟨b, o + 2 * k + 1, none⟩) hb).trans d1)
        have hix := fun W => run_file_idx W b o ln nc k hkn
        have hlk := lookF_of_mem HG.out.srt (List.mem_of_getElem? hf)
        have hfs : fn.size ≤ maxLen := Nat.le_trans (HG.out.nm _ _ hlk) (by unfold maxLen; omega)
        obtain ⟨X1, hX⟩ : ∃ X1, X1 = wr.heap.size := ⟨_, rfl⟩
        obtain ⟨w5, hw5⟩ : ∃ w5, w5 = wr.alloc (.cells #[.string fn, .slice ra rn rc] 100) := ⟨_, rfl⟩
        have hb5 : Below wr.heap.size wr w5 := by rw [hw5]; exact (Below.refl _ _).alloc (Nat.le_refl _) _
        have hX5 : X1 < w5.heap.size := by rw [hw5, hX]; simp
        have x0 : w5.cell? ⟨X1, 0, none⟩ = some (.string fn) := by rw [hw5, hX]; simp
        have x1 : w5.cell? ⟨X1, 1, none⟩ = some (.slice ra rn rc) := by rw [hw5, hX]; simp
        have hb45 := HB.out.trans (hb5.mono HB.out.size)
        have hbd5 := HB4.out.trans (hb45.mono HB4.out.size)
        have hr5 := HR.out.below hbd5
        obtain ⟨S5, lv5, k1, k2, -, -⟩ := hr5.ex
        have hsz := asize k1 k2 fn hfs
        unfold SzA at hsz
        rw [HDN.out, hlk] at hsz
        simp only [Bool.false_eq_true, if_false] at hsz
        have hrd := aread k1 k2 fn hfs 0 (fz.length : Int)
        unfold RdA at hrd
        rw [HDN.out, hlk] at hrd
        simp only [Bool.false_eq_true, if_false] at hrd
        simp only [if_neg (show ¬ ((0 : Int) < 0 ∨ (fz.length : Int) < 0) by omega)] at hrd
        simp only [Int.toNat_zero, List.drop_zero, Int.toNat_natCast, List.take_length] at hrd
        obtain ⟨g, hla, hgl, hgc⟩ := HOW.out.cell (by rw [List.length_map]; exact HLN.out) (i := k) (s := fn) (by rw [List.getElem?_map, hf]; rfl)
        subst hla
        have hg5 := (hb45.cell (p := ⟨g, k, none⟩) hgl).trans hgc
        have hgl5 := Nat.lt_of_lt_of_le hgl hb45.size
        have HRB := Lib.hid ((hrb.below hbd5).rd)
        have HSZ := Lib.hid hsz
        have HRD := Lib.hid hrd
        have HX0 := Lib.hid x0
        have HX1 := Lib.hid x1
        have HG5 := Lib.hid hg5
        have HB45 := Lib.hid hb45
        clear hf d0 d1 hrb hb5 hlk hr5 k1 k2 hsz hrd hgc hg5 hb45 hbd5 hb hbw
        go_upto_region 11 with fail
        rw [← hX]
        rw [← hw5]
        clear hX hw5 c0 c1 hix
        go_wp2_with fail
        refine HSZ.out.mono ?_
        rintro e5 w5b ⟨rfl, rfl⟩
        clear HSZ
        go_wp2_with fail
        refine HRD.out.mono ?_
        rintro e6 w6 ⟨va, vn, vc, rfl, hown6, hvn, hz6, hb6⟩
        obtain ⟨hrd6, hvb⟩ := rd_own hown6 hvn hz6
        have HSM := Lib.hid (show ∀ W, Drw (World.drew w6) W → Calls Try.prog 34 #[.slice va vn vc, .slice ra rn rc] W (RetD (.bool true) W) from fun W hq => by
          obtain ⟨q, rfl⟩ := hq
          have e1 := (hrd6.below (below_drewN' _ w6 1)).below (below_drewN' _ _ q)
          have e2 := ((HRB.out.below hb6).below (below_drewN' _ w6 1)).below (below_drewN' _ _ q)
          have := same_c va ra vn vc rn rc fz fz _ e1 e2 hvb
          simpa using this)
        have x0 := (hb6.cell (p := ⟨X1, 0, none⟩) hX5).trans HX0.out
        have x1 := (hb6.cell (p := ⟨X1, 1, none⟩) hX5).trans HX1.out
        have g0 := (hb6.cell (p := ⟨g, k, none⟩) hgl5).trans HG5.out
        have HB6 := Lib.hid (HB45.out.trans (hb6.mono HB45.out.size))
        clear HRD hown6 hvn hb6 hrd6 hz6 hvb
        go_wp2_with fail
        (try dsimp only [Act.put, List.setIfInBounds_toArray, List.set_cons_zero, List.set_cons_succ])
        have HS := Lib.hid (show Drw (World.drew w6) (World.drew w6) from ⟨0, rfl⟩)
        have HL1 := Lib.hid (fun W (hW : Drw (World.drew w6) W) => run_cell_s W ⟨g, k, none⟩ fn (by obtain ⟨q, rfl⟩ := hW; exact g0))
        have HL2 := Lib.hid (fun W (hW : Drw (World.drew w6) W) => run_cell_s W ⟨X1, 0, none⟩ fn (by obtain ⟨q, rfl⟩ := hW; exact x0))
        have HL3 := Lib.hid (fun W (hW : Drw (World.drew w6) W) => run_cell_b W ⟨X1, 1, none⟩ ra rn rc (by obtain ⟨q, rfl⟩ := hW; exact x1))
        clear g0 x0 x1
        refine anyH_begin (S := Drw (World.drew w6)) (by kernel_rfl) ?_
        refine anyH_pureG 0 (d := 93) (op := .move (.tmp 5)) (gd := none) (.slice (some ⟨g, 0, none⟩) ln lc2) (by rfl) (fun o ho => wanted_plain ho _) (by kernel_rfl) (by kernel_rfl) (by kernel_rfl) (fun _ _ _ h => h) (fun o ho W hW => by unfold execOp; simp only [ho]; go_simp) HS.out ?_
        simp only [Act.put, List.setIfInBounds_toArray, List.set_cons_zero, List.set_cons_succ]
        refine anyH_pureG 1 (d := 94) (op := .move (.tmp 7)) (gd := none) (.int .i64 (k : Int)) (by rfl) (fun o ho => wanted_plain ho _) (by kernel_rfl) (by kernel_rfl) (by kernel_rfl) (fun _ _ _ h => h) (fun o ho W hW => by unfold execOp; simp only [ho]; go_simp) HS.out ?_
        simp only [Act.put, List.setIfInBounds_toArray, List.set_cons_zero, List.set_cons_succ]
        refine anyH_pureG 2 (d := 95) (op := .indexAddr 64 (.tmp 93) (.tmp 94)) (gd := none) (.pointer (some ⟨g, k, none⟩)) (by rfl) (fun o ho => wanted_plain ho _) (by kernel_rfl) (by kernel_rfl) (by kernel_rfl) (fun _ _ _ h => h) (fun o1 ho W hW => exec_sidx0 hkn (x := .tmp 93) (y := .tmp 94) (by rfl) (by rfl) o1 ho W) HS.out ?_
        simp only [Act.put, List.setIfInBounds_toArray, List.set_cons_zero, List.set_cons_succ]
        refine anyH_loadG 3 (d := 96) (ty := 9) (x := (.tmp 95)) (gd := none) (p := .pointer (some ⟨g, k, none⟩)) (.string fn) (by rfl) (fun o ho => wanted_plain ho _) (by kernel_rfl) (by kernel_rfl) (by kernel_rfl) (fun _ _ _ h => h) (by rfl) HL1.out HS.out ?_
        simp only [Act.put, List.setIfInBounds_toArray, List.set_cons_zero, List.set_cons_succ]
        refine anyH_pureG 4 (d := 97) (op := .fieldAddr 100 (.tmp 8) 0) (gd := none) (.pointer (some ⟨X1, 0, none⟩)) (by rfl) (fun o ho => wanted_plain ho _) (by kernel_rfl) (by kernel_rfl) (by kernel_rfl) (fun _ _ _ h => h) (fun o ho W hW => by unfold execOp; simp only [ho]; go_simp) HS.out ?_
        simp only [Act.put, List.setIfInBounds_toArray, List.set_cons_zero, List.set_cons_succ]
        refine anyH_loadG 5 (d := 98) (ty := 9) (x := (.tmp 97)) (gd := none) (p := .pointer (some ⟨X1, 0, none⟩)) (.string fn) (by rfl) (fun o ho => wanted_plain ho _) (by kernel_rfl) (by kernel_rfl) (by kernel_rfl) (fun _ _ _ h => h) (by rfl) HL2.out HS.out ?_
        simp only [Act.put, List.setIfInBounds_toArray, List.set_cons_zero, List.set_cons_succ]
        refine anyH_pureG 6 (d := 99) (op := .binOp .neq 9 (.tmp 96) (.tmp 98) 9) (gd := none) (.bool false) (by rfl) (fun o ho => wanted_plain ho _) (by kernel_rfl) (by kernel_rfl) (by kernel_rfl) (fun _ _ _ h => h) (fun o1 ho W hW => by unfold execOp; simp only [ho]; go_simp; try simp) HS.out ?_
        simp only [Act.put, List.setIfInBounds_toArray, List.set_cons_zero, List.set_cons_succ]
        refine anyH_pureG 7 (d := 100) (op := .move (.tmp 99)) (gd := none) (.bool false) (by rfl) (fun o ho => wanted_plain ho _) (by kernel_rfl) (by kernel_rfl) (by kernel_rfl) (fun _ _ _ h => h) (fun o ho W hW => by unfold execOp; simp only [ho]; go_simp) HS.out ?_
        simp only [Act.put, List.setIfInBounds_toArray, List.set_cons_zero, List.set_cons_succ]
        refine anyH_pureG 8 (d := 101) (op := .move (.tmp 10)) (gd := some (7, false)) (.int .i64 0) (by rfl) (fun o ho => by simp only [Region.wanted, ho]; rfl) (by kernel_rfl) (by kernel_rfl) (by kernel_rfl) (fun _ _ _ h => h) (fun o ho W hW => by unfold execOp; simp only [ho]; go_simp) HS.out ?_
        simp only [Act.put, List.setIfInBounds_toArray, List.set_cons_zero, List.set_cons_succ]
        refine anyH_pureG 9 (d := 102) (op := .binOp .neq 25 (.tmp 101) (.const (.int .i64 0)) 25) (gd := some (7, false)) (.bool false) (by rfl) (fun o ho => by simp only [Region.wanted, ho]; rfl) (by kernel_rfl) (by kernel_rfl) (by kernel_rfl) (fun _ _ _ h => h) (fun o1 ho W hW => by unfold execOp; simp only [ho]; go_simp; try simp) HS.out ?_
        simp only [Act.put, List.setIfInBounds_toArray, List.set_cons_zero, List.set_cons_succ]
        refine anyH_pureG 10 (d := 103) (op := .pick (.tmp 100) (.const (.bool true)) (.tmp 102)) (gd := none) (.bool false) (by rfl) (fun o ho => wanted_plain ho _) (by kernel_rfl) (by kernel_rfl) (by kernel_rfl) (fun _ _ _ h => h) (fun o ho W hW => by unfold execOp; simp only [ho]; go_simp) HS.out ?_
        simp only [Act.put, List.setIfInBounds_toArray, List.set_cons_zero, List.set_cons_succ]
        refine anyH_pureG 11 (d := 104) (op := .move (.tmp 103)) (gd := none) (.bool false) (by rfl) (fun o ho => wanted_plain ho _) (by kernel_rfl) (by kernel_rfl) (by kernel_rfl) (fun _ _ _ h => h) (fun o ho W hW => by unfold execOp; simp only [ho]; go_simp) HS.out ?_
        simp only [Act.put, List.setIfInBounds_toArray, List.set_cons_zero, List.set_cons_succ]
        refine anyH_pureG 12 (d := 105) (op := .move (.tmp 12)) (gd := some (11, false)) (.int .i64 0) (by rfl) (fun o ho => by simp only [Region.wanted, ho]; rfl) (by kernel_rfl) (by kernel_rfl) (by kernel_rfl) (fun _ _ _ h => h) (fun o ho W hW => by unfold execOp; simp only [ho]; go_simp) HS.out ?_
        simp only [Act.put, List.setIfInBounds_toArray, List.set_cons_zero, List.set_cons_succ]
        refine anyH_pureG 13 (d := 106) (op := .binOp .neq 25 (.tmp 105) (.const (.int .i64 0)) 25) (gd := some (11, false)) (.bool false) (by rfl) (fun o ho => by simp only [Region.wanted, ho]; rfl) (by kernel_rfl) (by kernel_rfl) (by kernel_rfl) (fun _ _ _ h => h) (fun o1 ho W hW => by unfold execOp; simp only [ho]; go_simp; try simp) HS.out ?_
        simp only [Act.put, List.setIfInBounds_toArray, List.set_cons_zero, List.set_cons_succ]
        refine anyH_pureG 14 (d := 107) (op := .pick (.tmp 104) (.const (.bool true)) (.tmp 106)) (gd := none) (.bool false) (by rfl) (fun o ho => wanted_plain ho _) (by kernel_rfl) (by kernel_rfl) (by kernel_rfl) (fun _ _ _ h => h) (fun o ho W hW => by unfold execOp; simp only [ho]; go_simp) HS.out ?_
        simp only [Act.put, List.setIfInBounds_toArray, List.set_cons_zero, List.set_cons_succ]
        refine anyH_pureG 15 (d := 108) (op := .move (.tmp 107)) (gd := none) (.bool false) (by rfl) (fun o ho => wanted_plain ho _) (by kernel_rfl) (by kernel_rfl) (by kernel_rfl) (fun _ _ _ h => h) (fun o ho W hW => by unfold execOp; simp only [ho]; go_simp) HS.out ?_
        simp only [Act.put, List.setIfInBounds_toArray, List.set_cons_zero, List.set_cons_succ]
        refine anyH_pureG 16 (d := 109) (op := .move (.tmp 11)) (gd := some (15, false)) (.slice va vn vc) (by rfl) (fun o ho => by simp only [Region.wanted, ho]; rfl) (by kernel_rfl) (by kernel_rfl) (by kernel_rfl) (fun _ _ _ h => h) (fun o ho W hW => by unfold execOp; simp only [ho]; go_simp) HS.out ?_
        simp only [Act.put, List.setIfInBounds_toArray, List.set_cons_zero, List.set_cons_succ]
        refine anyH_pureG 17 (d := 110) (op := .fieldAddr 100 (.tmp 8) 1) (gd := some (15, false)) (.pointer (some ⟨X1, 1, none⟩)) (by rfl) (fun o ho => by simp only [Region.wanted, ho]; rfl) (by kernel_rfl) (by kernel_rfl) (by kernel_rfl) (fun _ _ _ h => h) (fun o ho W hW => by unfold execOp; simp only [ho]; go_simp) HS.out ?_
        simp only [Act.put, List.setIfInBounds_toArray, List.set_cons_zero, List.set_cons_succ]
        refine anyH_loadG 18 (d := 111) (ty := 30) (x := (.tmp 110)) (gd := some (15, false)) (p := .pointer (some ⟨X1, 1, none⟩)) (.slice ra rn rc) (by rfl) (fun o ho => by simp only [Region.wanted, ho]; rfl) (by kernel_rfl) (by kernel_rfl) (by kernel_rfl) (fun _ _ _ h => h) (by rfl) HL3.out HS.out ?_
        simp only [Act.put, List.setIfInBounds_toArray, List.set_cons_zero, List.set_cons_succ]
        refine anyH_callG 19 (d := some 112) (f := 34) (xs := #[(.tmp 109), (.tmp 111)]) (ts := #[30, 30]) (gd := some (15, false)) (vs := #[.slice va vn vc, .slice ra rn rc]) (by kernel_rfl) (by rfl) (fun o ho => by simp only [Region.wanted, ho]; rfl) (by go_simp) (by go_simp) (HSM.out _ HS.out) ?_
        rintro e8 w8 ⟨rfl, q8, hw8⟩
        have HS1 := Lib.hid (show Drw (World.drew w6) w8 from ⟨q8, hw8⟩)
        clear hw8
        refine ⟨_, rfl, HS1.out, fun _ => ?_⟩
        simp only [Act.put, List.setIfInBounds_toArray, List.set_cons_zero, List.set_cons_succ]
        refine anyH_pureG 20 (d := 113) (op := .unOp .not 4 (.tmp 112)) (gd := some (15, false)) (.bool false) (by rfl) (fun o ho => by simp only [Region.wanted, ho]; rfl) (by kernel_rfl) (by kernel_rfl) (by kernel_rfl) (fun _ _ _ h => h) (fun o ho W hW => by unfold execOp; simp only [ho]; go_simp) HS1.out ?_
        simp only [Act.put, List.setIfInBounds_toArray, List.set_cons_zero, List.set_cons_succ]
        refine anyH_pureG 21 (d := 114) (op := .pick (.tmp 108) (.const (.bool true)) (.tmp 113)) (gd := none) (.bool false) (by rfl) (fun o ho => wanted_plain ho _) (by kernel_rfl) (by kernel_rfl) (by kernel_rfl) (fun _ _ _ h => h) (fun o ho W hW => by unfold execOp; simp only [ho]; go_simp) HS1.out ?_
        simp only [Act.put, List.setIfInBounds_toArray, List.set_cons_zero, List.set_cons_succ]
        refine wpAnyH_done (by kernel_rfl) ?_ _
        obtain ⟨q8, hq8⟩ := HS1.out
        have HB8 := Lib.hid (show Below w4.heap.size w4 w8 from by rw [hq8]; exact (HB6.out.trans (below_drewN' _ w6 1)).trans (below_drewN' _ _ q8))
        clear HS HS1 HL1 HL2 HL3 HSM hq8
        go_wp2_with fail
        go_roundw
        case rel => exact ⟨k + 1, by omega, by go_num, HB8⟩
        case measure => simp [intOf]; omega
      · go_wp2_with fail
        go_ret
        exact ⟨rfl, (below_drewN' _ w 1).trans (HB4.out.trans (HB.out.mono HB4.out.size))⟩
end Go.Proofs.Ytcjlbonflecbkaa
