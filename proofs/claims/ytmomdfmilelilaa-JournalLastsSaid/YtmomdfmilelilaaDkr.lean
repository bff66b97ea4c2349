/-
  A disk in memory: Read.
-/
import Derived.Test.YtmomdfmilelilaaDkh
namespace Go.Proofs.Ytmomdfmilelilaa
open Go.RowKit Go.Maps
set_option linter.unusedVariables false
theorem exec_cutD {a : Option Addr} {len cap k : Nat} (hk : k ≤ len) {A : Act} {x y : Operand} (hx : A.eval x = .slice a len cap) (hy : A.eval y = .int .i64 (k : Int)) (o : Oper) (ho : o.op = .slice 32 x (some y) none none) (W : World) :
    (execOp A.eval o).run Try.prog W = .ok (.value (.slice (sla a cap k) (len - k) (cap - k))) W := by
  unfold execOp
  simp only [ho, hx, hy, Option.map_none, Option.map_some]
  rw [Sem.run_bind, run_cutAt W a len cap k hk]
  rfl
set_option maxRecDepth 100000 in
set_option maxHeartbeats 4000000 in
theorem dread_ok {B d : Nat} {S : Dsk} {w : World} (h : DK B d S w) (s : ByteArray) (hs : s.size ≤ maxLen) (x n : Int) (hd : S.down = false) {b : Nat} {f : Fil} (ha : S.at s = some b) (hfl : S.fl b = some f) (hx : 0 ≤ x) (hn : 0 ≤ n) (hfz : f.zs.length ≤ 100000000000) :
    Calls Try.prog 64 #[.pointer (some ⟨d, 0, none⟩), .string s, .int .i64 x, .int .i64 n] w fun e w' => ∃ va vn vc, e = .returned (.tuple #[.slice va vn vc, .int .i64 0]) ∧ Own w' w.heap.size (.slice va vn vc) ((f.zs.drop x.toNat).take n.toNat) ∧ vn = ((f.zs.drop x.toNat).take n.toNat).length ∧ (∀ z ∈ (f.zs.drop x.toNat).take n.toNat, z < 256) ∧ Below w.heap.size w w' := by
  have HF := Lib.hid (dfind_c h s hs)
  rw [show S.find s = (some b, 0) from by unfold Dsk.find; rw [hd, ha]; rfl] at HF
  simp only [ptrOf, Option.map_some] at HF
  obtain ⟨ra, rc, hrow, hrl, -, hrd⟩ := ((h.rest.hf b f hfl).2.2.1).rd (h.rest.hf b f hfl).2.2.2
  have hzz := (h.rest.hf b f hfl).2.2.2
  have hnil : ra = none → rc = 0 := fun e => by
    rcases (h.rest.hf b f hfl).2.2.1.2 with ⟨h1, _⟩ | ⟨g, cap, cur, h1, _⟩
    · rw [hrow] at h1
      exact (Value.slice.inj h1).2.2
    · rw [hrow] at h1
      have := (Value.slice.inj h1).1
      rw [e] at this
      cases this
  have HC := Lib.hid ((h.rest.fcells hfl).2.trans (congrArg some hrow))
  obtain ⟨k, hmin, hkl, hke⟩ : ∃ k : Nat, min x (f.zs.length : Int) = (k : Int) ∧ k ≤ f.zs.length ∧ f.zs.drop k = f.zs.drop x.toNat := by
    by_cases hc : x.toNat ≤ f.zs.length
    · exact ⟨x.toNat, by omega, hc, rfl⟩
    · refine ⟨f.zs.length, by omega, Nat.le_refl _, ?_⟩
      rw [List.drop_length, List.drop_of_length_le (by omega)]
  obtain ⟨m, hmin2, hml, hme⟩ : ∃ m : Nat, min n (((f.zs.length - k : Nat)) : Int) = (m : Int) ∧ m ≤ f.zs.length - k ∧ (f.zs.drop k).take m = (f.zs.drop x.toNat).take n.toNat := by
    rw [← hke]
    by_cases hc : n.toNat ≤ f.zs.length - k
    · exact ⟨n.toNat, by omega, hc, rfl⟩
    · refine ⟨f.zs.length - k, by omega, Nat.le_refl _, ?_⟩
      rw [List.take_of_length_le (by rw [List.length_drop]; omega), List.take_of_length_le (by rw [List.length_drop]; omega)]
  have i1 : ¬ x < 0 := by omega
  have i2 : ¬ n < 0 := by omega
  have HRD := Lib.hid ((hrd.cut rc k hkl hrl).take m hml)
  rw [hme] at HRD
  have HZ := Lib.hid (show ∀ z ∈ (f.zs.drop x.toNat).take n.toNat, z < 256 from fun z hz => hzz z (List.mem_of_mem_drop (List.mem_of_mem_take hz)))
  have hhd := fun W => run_headAt W (sla ra rc k) (f.zs.length - k) (rc - k) m (by omega)
  have hnil2 : sla ra rc k = none → rc - k = 0 := fun e => by rw [hnil (sla_none _ _ _ e)]; omega
  clear h hrow hrd hzz hnil hke hme ha
  go_enter Try.func64, Try.ntmps64
  go_wp2_with fail
  refine HF.out.mono ?_
  rintro e1 w1 ⟨rfl, rfl⟩
  clear HF
  go_wp2_with fail
  (try dsimp only [Act.put, List.setIfInBounds_toArray, List.set_cons_zero, List.set_cons_succ])
  have HS := Lib.hid (show World.cell? (World.drew _) ⟨b, 1, none⟩ = some (.slice ra f.zs.length rc) from HC.out)
  have HL1 := Lib.hid (fun W (hW : World.cell? W ⟨b, 1, none⟩ = some (.slice ra f.zs.length rc)) => run_cell_b W ⟨b, 1, none⟩ ra f.zs.length rc hW)
  refine anyH_begin (S := fun W => World.cell? W ⟨b, 1, none⟩ = some (.slice ra f.zs.length rc)) (by kernel_rfl) ?_
  refine anyH_pureG 0 (d := 28) (op := .move (.tmp 10)) (gd := none) (.pointer (some ⟨b, 0, none⟩)) (by rfl) (fun o ho => wanted_plain ho _) (by kernel_rfl) (by kernel_rfl) (by kernel_rfl) (fun _ _ _ h => h) (fun o ho W hW => by unfold execOp; simp only [ho]; go_simp) HS.out ?_
  simp only [Act.put, List.setIfInBounds_toArray, List.set_cons_zero, List.set_cons_succ]
  refine anyH_pureG 1 (d := 29) (op := .nilCheck (.tmp 28)) (gd := none) (.pointer (some ⟨b, 0, none⟩)) (by rfl) (fun o ho => wanted_plain ho _) (by kernel_rfl) (by kernel_rfl) (by kernel_rfl) (fun _ _ _ h => h) (fun o ho W hW => by unfold execOp; simp only [ho]; go_simp) HS.out ?_
  simp only [Act.put, List.setIfInBounds_toArray, List.set_cons_zero, List.set_cons_succ]
  refine anyH_pureG 2 (d := 30) (op := .fieldAddr 125 (.tmp 29) 1) (gd := none) (.pointer (some ⟨b, 1, none⟩)) (by rfl) (fun o ho => wanted_plain ho _) (by kernel_rfl) (by kernel_rfl) (by kernel_rfl) (fun _ _ _ h => h) (fun o ho W hW => by unfold execOp; simp only [ho]; go_simp) HS.out ?_
  simp only [Act.put, List.setIfInBounds_toArray, List.set_cons_zero, List.set_cons_succ]
  refine anyH_loadG 3 (d := 31) (ty := 32) (x := (.tmp 30)) (gd := none) (p := .pointer (some ⟨b, 1, none⟩)) (.slice ra f.zs.length rc) (by rfl) (fun o ho => wanted_plain ho _) (by kernel_rfl) (by kernel_rfl) (by kernel_rfl) (fun _ _ _ h => h) (by rfl) HL1.out HS.out ?_
  simp only [Act.put, List.setIfInBounds_toArray, List.set_cons_zero, List.set_cons_succ]
  refine anyH_pureG 4 (d := 32) (op := .move (.tmp 2)) (gd := none) (.int .i64 x) (by rfl) (fun o ho => wanted_plain ho _) (by kernel_rfl) (by kernel_rfl) (by kernel_rfl) (fun _ _ _ h => h) (fun o ho W hW => by unfold execOp; simp only [ho]; go_simp) HS.out ?_
  simp only [Act.put, List.setIfInBounds_toArray, List.set_cons_zero, List.set_cons_succ]
  refine anyH_pureG 5 (d := 33) (op := .move (.tmp 10)) (gd := none) (.pointer (some ⟨b, 0, none⟩)) (by rfl) (fun o ho => wanted_plain ho _) (by kernel_rfl) (by kernel_rfl) (by kernel_rfl) (fun _ _ _ h => h) (fun o ho W hW => by unfold execOp; simp only [ho]; go_simp) HS.out ?_
  simp only [Act.put, List.setIfInBounds_toArray, List.set_cons_zero, List.set_cons_succ]
  refine anyH_pureG 6 (d := 34) (op := .nilCheck (.tmp 33)) (gd := none) (.pointer (some ⟨b, 0, none⟩)) (by rfl) (fun o ho => wanted_plain ho _) (by kernel_rfl) (by kernel_rfl) (by kernel_rfl) (fun _ _ _ h => h) (fun o ho W hW => by unfold execOp; simp only [ho]; go_simp) HS.out ?_
  simp only [Act.put, List.setIfInBounds_toArray, List.set_cons_zero, List.set_cons_succ]
  refine anyH_pureG 7 (d := 35) (op := .fieldAddr 125 (.tmp 34) 1) (gd := none) (.pointer (some ⟨b, 1, none⟩)) (by rfl) (fun o ho => wanted_plain ho _) (by kernel_rfl) (by kernel_rfl) (by kernel_rfl) (fun _ _ _ h => h) (fun o ho W hW => by unfold execOp; simp only [ho]; go_simp) HS.out ?_
  simp only [Act.put, List.setIfInBounds_toArray, List.set_cons_zero, List.set_cons_succ]
  refine anyH_loadG 8 (d := 36) (ty := 32) (x := (.tmp 35)) (gd := none) (p := .pointer (some ⟨b, 1, none⟩)) (.slice ra f.zs.length rc) (by rfl) (fun o ho => wanted_plain ho _) (by kernel_rfl) (by kernel_rfl) (by kernel_rfl) (fun _ _ _ h => h) (by rfl) HL1.out HS.out ?_
  simp only [Act.put, List.setIfInBounds_toArray, List.set_cons_zero, List.set_cons_succ]
  refine anyH_pureG 9 (d := 37) (op := .call { callee := .builtin .len, args := #[(.tmp 36)], argTypes := #[32] }) (gd := none) (.int .i64 (f.zs.length : Int)) (by rfl) (fun o ho => wanted_plain ho _) (by kernel_rfl) (by kernel_rfl) (by kernel_rfl) (fun _ _ _ h => h) (fun o ho W hW => by unfold execOp; simp only [ho]; go_simp) HS.out ?_
  simp only [Act.put, List.setIfInBounds_toArray, List.set_cons_zero, List.set_cons_succ]
  refine anyH_pureG 10 (d := 38) (op := .call { callee := .builtin .min, args := #[(.tmp 32), (.tmp 37)], argTypes := #[3, 3] }) (gd := none) (.int .i64 (k : Int)) (by rfl) (fun o ho => wanted_plain ho _) (by kernel_rfl) (by kernel_rfl) (by kernel_rfl) (fun _ _ _ h => h) (fun o ho W hW => by unfold execOp; simp only [ho]; go_simp; try exact hmin) HS.out ?_
  simp only [Act.put, List.setIfInBounds_toArray, List.set_cons_zero, List.set_cons_succ]
  refine anyH_pureG 11 (d := 39) (op := .slice 32 (.tmp 31) (some (.tmp 38)) none none) (gd := none) (.slice (sla ra rc k) (f.zs.length - k) (rc - k)) (by rfl) (fun o ho => wanted_plain ho _) (by kernel_rfl) (by kernel_rfl) (by kernel_rfl) (fun _ _ _ h => h) (fun o ho W hW => exec_cutD (x := .tmp 31) (y := .tmp 38) hkl (by rfl) (by rfl) o ho W) HS.out ?_
  simp only [Act.put, List.setIfInBounds_toArray, List.set_cons_zero, List.set_cons_succ]
  refine anyH_pureG 12 (d := 12) (op := .assign (.tmp 39)) (gd := none) (.slice (sla ra rc k) (f.zs.length - k) (rc - k)) (by rfl) (fun o ho => wanted_plain ho _) (by kernel_rfl) (by kernel_rfl) (by kernel_rfl) (fun _ _ _ h => h) (fun o ho W hW => by unfold execOp; simp only [ho]; go_simp) HS.out ?_
  simp only [Act.put, List.setIfInBounds_toArray, List.set_cons_zero, List.set_cons_succ]
  refine wpAnyH_done (by kernel_rfl) ?_ _
  clear HS HL1 HC
  go_wp2_with (at_builtin; refine wpList_catR rfl (.const (.slice none 0 0)) (.tmp 46) rfl _ (.slice none 0 0) [] _ (by rfl) (Own.nil _ _) (Nat.le_refl _) (sla ra rc k) m (rc - k) (by rfl) HRD.out.drew hnil2 (fun z hz => by cases hz) ?_ ?_)
  · have := HRD.out.1
    simp only [List.length_nil, Nat.zero_add]
    omega
  · intro va vn vc w7 hl7 _ _ _ _ ho7 hb7
    have HO := Lib.hid ho7
    have HB := Lib.hid hb7
    have HL := Lib.hid hl7
    clear ho7 hb7 hl7
    go_wp2_with fail
    go_ret2
    exact ⟨_, _, _, rfl, HO.out, by rw [List.length_take, List.length_drop]; exact HL.out.symm, HZ.out, (Below.refl _ _).drew.trans HB.out⟩
end Go.Proofs.Ytmomdfmilelilaa
