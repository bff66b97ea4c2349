/-
  The document's disk: Sync, clamp, Read; Step of whatever change. The document's disk: what a crash leaves, on plain lists.
-/
import Derived.Test.YtcjlbonflecbkaaRfi
namespace Go.Proofs.Ytcjlbonflecbkaa
open Go.RowKit
set_option linter.unusedVariables false
/-- Sure becomes Now, no change is loose -/
theorem RDK.synced {F : Nat → Prop} {B m : Nat} {lv : Value} {A : Ad} {w : World} (h : RDK F B m lv A w) {na : Option Addr} {nn nc : Nat} (hc : w.cell? ⟨m, 1, none⟩ = some (.slice na nn nc)) :
    RDK F B m (.slice none 0 0) { A with sure := A.now, loose := [] } ((w.setCell ⟨m, 2, none⟩ (.slice na nn nc)).setCell ⟨m, 3, none⟩ (.slice none 0 0)) ∧ MvR m lv (.slice none 0 0) w ((w.setCell ⟨m, 2, none⟩ (.slice na nn nc)).setCell ⟨m, 3, none⟩ (.slice none 0 0)) := by
  obtain ⟨na', nn', nc', sa, sn, sc, h1, h2, h3⟩ := h.hd
  have e : some (Value.slice na' nn' nc') = some (.slice na nn nc) := ((cell_of_row w m 1 _ _ _ h1).trans rfl).symm.trans hc
  obtain ⟨e1, e2, e3⟩ := Value.slice.inj (Option.some.inj e)
  subst e1 e2 e3
  have k1 := row_set h1 (.slice na' nn' nc') (o := 2) (by show 2 < 6; omega)
  have k2 := row_set k1 (.slice none 0 0) (o := 3) (by show 3 < 6; omega)
  have ho : ∀ k, k ≠ m → ((w.setCell ⟨m, 2, none⟩ (.slice na' nn' nc')).setCell ⟨m, 3, none⟩ (.slice none 0 0)).heap[k]? = w.heap[k]? := fun k hk => (Below.heap_setCell _ ⟨m, 3, none⟩ _ k hk).trans (Below.heap_setCell w ⟨m, 2, none⟩ _ k hk)
  have hz : ((w.setCell ⟨m, 2, none⟩ (.slice na' nn' nc')).setCell ⟨m, 3, none⟩ (.slice none 0 0)).heap.size = w.heap.size := by simp [World.setCell]
  have hN : Sta (NR F m lv) w ((w.setCell ⟨m, 2, none⟩ (.slice na' nn' nc')).setCell ⟨m, 3, none⟩ (.slice none 0 0)) := ⟨by rw [hz]; exact Nat.le_refl _, fun k hk hn => ho k fun e => hn (.inr (.inl e))⟩
  have hR : Ren (NR F m lv) (NR F m (.slice none 0 0)) w := fun k hk => by
    rcases hk with hk | hk | hk
    · exact .inl (.inl hk)
    · exact .inl (.inr (.inl hk))
    · cases hk
  refine ⟨⟨h.base, fun k hk hf => ?_, ⟨na', nn', nc', na', nn', nc', k2, h2.sta hN hR, h2.sta hN hR⟩, [], rfl, World.ownsRow_nil _ _ _ _, fun r hr => by cases hr⟩, rfl, rfl, rfl, by rw [hz]; exact Nat.le_refl _, fun k hk hn => ho k fun e => hn (.inl e), fun k hk => ?_⟩
  · rcases hk with hk | hk
    · exact h.noF k (.inl hk) hf
    · cases hk
  · rcases hk with hk | hk
    · exact .inl (.inl hk)
    · cases hk
set_option maxRecDepth 100000 in
set_option maxHeartbeats 8000000 in
theorem rsync_c {F : Nat → Prop} {B m : Nat} {lv : Value} {A : Ad} {w : World} (h : RDK F B m lv A w) (hfu : A.fuse ≤ 9223372036854775807) : Calls Try.prog 47 #[.pointer (some ⟨m, 0, none⟩)] w (StpR F B m lv w A.sync.2 A.sync.1) := by
  obtain ⟨na, nn, nc, sa, sn, sc, ⟨-, -, -, -, -, c5⟩, -, -, -⟩ := h.cells
  have HP := Lib.hid (rpower_c h hfu)
  have HK := Lib.hid h
  rcases down_cases A with hd | hd
  · rw [show A.sync = (A, 5) by unfold Ad.sync; rw [if_pos hd]]
    rw [hd] at c5
    clear h
    go_enter Try.func47, Try.ntmps47
    go_wp2_with fail
    go_ret
    exact ⟨rfl, _, HK.out, MvR.refl _ _ _⟩
  rw [hd] at c5
  by_cases hf : A.fuse = 0
  · rw [show A.sync = (A.off, 5) by unfold Ad.sync; rw [hd, if_pos hf]; rfl]
    have hpw : A.pow = (A.off, false) := by unfold Ad.pow; rw [if_pos hf]
    rw [hpw] at HP
    clear h hf hpw
    go_enter Try.func47, Try.ntmps47
    go_wp2_with fail
    refine HP.out.mono ?_
    rintro e2 w2 ⟨rfl, hk2, hm2⟩
    have HK2 := Lib.hid hk2
    have HM2 := Lib.hid hm2
    clear hk2 hm2 HP
    go_wp2_with fail
    go_ret
    exact ⟨rfl, _, HK2.out, HM2.out⟩
  rw [show A.sync = ({ A.spent with sure := A.now, loose := [] }, 0) by unfold Ad.sync; rw [hd, if_neg hf]; rfl]
  have hpw : A.pow = (A.spent, true) := by unfold Ad.pow; rw [if_neg hf]
  rw [hpw] at HP
  clear h hf hpw
  go_enter Try.func47, Try.ntmps47
  go_wp2_with fail
  refine HP.out.mono ?_
  rintro e2 w2 ⟨rfl, hk2, hm2⟩
  obtain ⟨na2, nn2, nc2, sa2, sn2, sc2, ⟨-, d1, d2, d3, -, -⟩, dz, -, -⟩ := hk2.cells
  have z2 := dz 2
  have z3 := dz 3
  obtain ⟨k3, m3⟩ := hk2.synced d1
  have HK3 := Lib.hid k3
  have HM3 := Lib.hid (hm2.trans m3)
  obtain ⟨lvv, hlv⟩ : ∃ a n c, lv = .slice a n c := by
    obtain ⟨ps, _, h2, _⟩ := hk2.hl
    rcases h2.2 with ⟨h1, _⟩ | ⟨g, cap, cur, h1, _⟩
    · exact ⟨_, _, _, h1⟩
    · exact ⟨_, _, _, h1⟩
  clear hk2 hm2 HP k3 m3 dz
  go_wp2_with fail
  go_ret
  exact ⟨rfl, _, HK3.out, HM3.out⟩
def clampI (n most : Int) : Int := if n < 0 then 0 else if most < n then most else n
set_option maxRecDepth 100000 in
set_option maxHeartbeats 8000000 in
theorem rclamp_c (n most : Int) (w : World) : Calls Try.prog 89 #[.int .i64 n, .int .i64 most] w fun e w' => e = .returned (.int .i64 (clampI n most)) ∧ w' = w := by
  unfold clampI
  by_cases h0 : n < 0
  · rw [if_pos h0]
    go_enter Try.func89, Try.ntmps89
    go_wp2_with fail
    go_ret
    exact ⟨rfl, rfl⟩
  · rw [if_neg h0]
    by_cases h1 : most < n
    · rw [if_pos h1]
      go_enter Try.func89, Try.ntmps89
      go_wp2_with fail
      go_ret
      exact ⟨rfl, rfl⟩
    · rw [if_neg h1]
      go_enter Try.func89, Try.ntmps89
      go_wp2_with fail
      go_ret
      exact ⟨rfl, rfl⟩
theorem clamp_eq {x : Int} {n : Nat} : clampI x (n : Int) = ((min x.toNat n : Nat) : Int) := by
  unfold clampI
  split
  · omega
  · split <;> omega
theorem rdo_c {N : Nat → Prop} {w : World} {a : Option Addr} {len cap : Nat} {l : Fls} (h : RF N w a len l) (hN : ∀ k, N k → k < w.heap.size) (c : DCh) (ta : Option Addr) (tn tc : Nat) (hp : RB N w ta tn tc c.p) (hm : len ≤ 100000000) (hk : c.kind ≤ 3) (hl : c.kind ≠ 0 → ∃ z, lookF l c.a = some z ∧ (c.kind = 1 → z.length + c.p.length ≤ 1000000000)) :
    Calls Try.prog 87 #[.slice a len cap, .agg #[.int .i64 (c.kind : Int), .string c.a, .string c.b, .slice ta tn tc]] w (RetF N (doF l c) w) := by
  obtain ⟨k, s, t, p⟩ := c
  simp only at hk hl hp
  match k, hk, hl with
  | 0, _, _ => exact rdo0_c h hN s t (.slice ta tn tc) ⟨_, _, _, rfl⟩ hm
  | 1, _, hl =>
    obtain ⟨z, hz, hb⟩ := hl (by decide)
    exact rdo1_c h hN s t ta tn tc hm hz hp (hb rfl)
  | 2, _, _ => exact rdo2_c h hN s t ta tn tc hm
  | 3, _, hl =>
    obtain ⟨z, hz, hb⟩ := hl (by decide)
    exact rdo3_c h hN s t ta tn tc hm hz
theorem rmay_c {F : Nat → Prop} {B m : Nat} {lv : Value} {A : Ad} {w : World} (h : RDK F B m lv A w) (c : DCh) (hk : c.kind ≤ 3) (pa : Option Addr) (pn pc : Nat) (hpl : c.p.length = pn) (hs : c.a.size ≤ maxLen) (ht : c.b.size ≤ maxLen) (hm : A.now.length ≤ 100000000) (hu : usedF A.now ≤ 1000000000) (hr0 : 0 ≤ A.room) (hr1 : A.room ≤ 1000000000) :
    Calls Try.prog 85 #[.pointer (some ⟨m, 0, none⟩), .agg #[.int .i64 (c.kind : Int), .string c.a, .string c.b, .slice pa pn pc]] w fun e w' => e = .returned (.int .i64 (A.may c)) ∧ Below w.heap.size w w' := by
  obtain ⟨k, s, t, p⟩ := c
  simp only at hk hpl hs ht
  match k, hk with
  | 0, _ => exact rmay0_c h ⟨0, s, t, p⟩ rfl pa pn pc hs hm
  | 1, _ => exact rmay1_c h s t p pa pn pc hm hpl hu hr0 hr1
  | 2, _ => exact rmay2_c h s t p pa pn pc hm
  | 3, _ => exact rmay3_c h s t p pa pn pc hm ht
theorem may_zero {A : Ad} {c : DCh} (h : A.may c = 0) (h0 : c.kind ≠ 0) : ∃ z, lookF A.now c.a = some z ∧ (c.kind = 1 → c.p.length ≤ 1048576 ∧ (usedF A.now : Int) + (c.p.length : Int) ≤ A.room) := by
  unfold Ad.may at h
  rw [if_neg h0] at h
  cases e : lookF A.now c.a with
  | none => rw [e] at h; simp at h
  | some z =>
    refine ⟨z, rfl, fun h1 => ?_⟩
    rw [e, if_neg (by simp), if_pos h1] at h
    split at h
    · cases h
    · split at h
      · cases h
      · omega
theorem rstep_any {F : Nat → Prop} {B m : Nat} {lv : Value} {A : Ad} {w : World} (h : RDK F B m lv A w) (hF : ∀ k, F k → k < w.heap.size) (c : DCh) (hk : c.kind ≤ 3) (pa : Option Addr) (pn pc : Nat) (hp : RB (NR F m lv) w pa pn pc c.p) (hpn : pn ≤ 140737488355327) (hs : c.a.size ≤ maxLen) (ht : c.b.size ≤ maxLen) (hsr : Srt A.now) (hm : A.now.length ≤ 100000000) (hu : usedF A.now ≤ 67108864) (hr0 : 0 ≤ A.room) (hr1 : A.room ≤ 67108864) (hfu : A.fuse ≤ 9223372036854775807) (hll : A.loose.length + 1 ≤ 1000000000) :
    Calls Try.prog 43 #[.pointer (some ⟨m, 0, none⟩), .agg #[.int .i64 (c.kind : Int), .string c.a, .string c.b, .slice pa pn pc]] w (StpR F B m lv w (A.step c).2 (A.step c).1) := by
  refine rstep_c h hF c pa pn pc hp hpn hfu hll (fun _ G W hW => rmay_c hW c hk pa pn pc hp.rd.1 hs ht hm (by omega) hr0 (by omega)) (fun h0 N W na nn nc ta tn tc hN hrf hrb => ?_)
  have hln := hrf.ln
  refine rdo_c hrf hN c ta tn tc hrb (by omega) hk fun hk0 => ?_
  obtain ⟨z, hz, h1⟩ := may_zero h0 hk0
  have hz2 := used_without (n := c.a) hsr
  rw [hz] at hz2
  simp only [Option.getD_some] at hz2
  refine ⟨z, hz, fun hk1 => ?_⟩
  have h2 := h1 hk1
  omega
end Go.Proofs.Ytcjlbonflecbkaa
namespace Go.Proofs.Ytcjlbonflecbkaa
open Go.RowKit
set_option linter.unusedVariables false
theorem length_doF (l : Fls) (o : DCh) : (doF l o).length ≤ l.length + 1 := by
  have w1 := fun (m : Fls) n => without_len m n
  unfold doF
  split
  · rw [length_with]; omega
  · split
    · rw [length_with]; have := w1 l o.a; omega
    · split
      · have := w1 l o.a; omega
      · rw [length_with]
        have h1 := w1 (withoutF l o.a) o.b
        have h2 := w1 l o.a
        omega
theorem length_fold (os : List DCh) : ∀ l : Fls, (os.foldl doF l).length ≤ l.length + os.length := by
  induction os with
  | nil => intro l; simp
  | cons o os ih =>
    intro l
    rw [List.foldl_cons]
    have h1 := ih (doF l o)
    have h2 := length_doF l o
    simp only [List.length_cons]
    omega
/-- a change that can be done -/
def Okc (R : Nat) (l : Fls) (o : DCh) : Prop := o.kind ≤ 3 ∧ (o.kind ≠ 0 → ∃ z, lookF l o.a = some z ∧ (o.kind = 1 → z.length + o.p.length ≤ R ∧ o.p.length ≤ 1048576))
theorem Chn.okc {R : Nat} {V : Vw} {c : Chg} {cs : List Chg} {l : Fls} {o : DCh} {os : List DCh} {sure : Fls} (h : Chn R V (c :: cs) l (o :: os) sure) : ∃ l', l = doF l' o ∧ Okc R l' o ∧ Chn R (V.undo c 0) cs l' os sure := by
  cases h with
  | @cons _ _ _ _ l' _ _ _ hab hu hd hf hch =>
    refine ⟨l', hd, ⟨hf.k3, fun h0 => ?_⟩, hch⟩
    have hab' := hch.ab
    have hk := hf.kind
    by_cases e1 : o.kind = 1
    · obtain ⟨h1, h2, h2', h3, h4, h5⟩ := hf.k1 e1
      have hv : V.undo c 0 = V.bytes c.file ((V.zs c.file).take (c.size.toNat + 0)) := by
        unfold Vw.undo
        rw [if_neg (by omega), if_pos (by omega)]
      have hl : lookF l' o.a = some ((V.zs c.file).take c.size.toNat) := by
        rw [hab'.has (s := o.a) (b := c.file) (by rw [hv]; exact h1), hv]
        show some (if c.file = c.file then _ else _) = _
        rw [if_pos rfl, Nat.add_zero]
      refine ⟨_, hl, fun _ => ⟨?_, h5⟩⟩
      have e : (V.zs c.file).take c.size.toNat ++ o.p = V.zs c.file := by rw [← h4, List.take_append_drop]
      have e2 := congrArg List.length e
      rw [List.length_append] at e2
      have h9 := used_without (n := o.a) hab.srt
      rw [hab.has h1] at h9
      simp only [Option.getD_some] at h9
      omega
    · by_cases e2 : o.kind = 2
      · obtain ⟨h1, h2⟩ := hf.k2 e2
        have hv : V.undo c 0 = V.set (V.nm c.file) (some c.file) := by
          unfold Vw.undo
          rw [if_neg (by omega), if_neg (by omega), if_pos (by omega)]
        have hix : (V.undo c 0).ix o.a = some c.file := by
          rw [hv, h1]
          show (if o.a = o.a then _ else _) = _
          rw [if_pos rfl]
        exact ⟨_, hab'.has hix, fun h => absurd h e1⟩
      · have e3 : o.kind = 3 := by have := hf.k3; omega
        obtain ⟨h1, h2, h3, h4⟩ := hf.k3a e3
        have hix : (V.undo c 0).ix o.a = some c.file := by
          unfold Vw.undo
          rw [if_neg (by omega), if_neg (by omega), if_neg (by omega)]
          rcases h4 with h4 | ⟨r, h4, h5, h6, h7⟩
          · rw [h4, h2]
            show (if o.a = o.a then _ else _) = _
            rw [if_pos rfl]
          · rw [h4, h2]
            show (if o.a = V.nm r then _ else if o.a = o.a then _ else _) = _
            rw [h6, if_neg h7, if_pos rfl]
        exact ⟨_, hab'.has hix, fun h => absurd h e1⟩
theorem Chn.allr {R : Nat} : ∀ (qs : List DCh) {V : Vw} {cs : List Chg} {l : Fls} {sure : Fls}, Chn R V cs l qs sure → ∀ k o, qs.reverse[k]? = some o → Okc R ((qs.reverse.take k).foldl doF sure) o := by
  intro qs
  induction qs with
  | nil => intro V cs l sure _ k o h; simp at h
  | cons x qs ih =>
    intro V cs l sure h k o hk
    rw [List.reverse_cons] at hk
    rw [List.reverse_cons]
    cases cs with
    | nil => cases h
    | cons c cs =>
      obtain ⟨l', h1, h2, h3⟩ := h.okc
      by_cases hkl : k < qs.reverse.length
      · rw [List.getElem?_append_left hkl] at hk
        rw [List.take_append_of_le_length (by omega)]
        exact ih h3 k o hk
      · rw [List.getElem?_append_right (by omega)] at hk
        have hz : k - qs.reverse.length = 0 := by
          have := (List.getElem?_eq_some_iff.1 hk).1
          rw [List.length_singleton] at this
          omega
        rw [hz] at hk
        cases hk
        have e : k = qs.reverse.length := by omega
        rw [e, List.take_left]
        have h9 := h3.fold
        rw [List.foldl_reverse, ← h9]
        exact h2
theorem Chn.all {R : Nat} (ps : List DCh) {V : Vw} {cs : List Chg} {l : Fls} {sure : Fls} (h : Chn R V cs l ps.reverse sure) : ∀ k o, ps[k]? = some o → Okc R ((ps.take k).foldl doF sure) o := by
  intro k o hk
  have h1 := h.allr _ k o (by rw [List.reverse_reverse]; exact hk)
  rwa [List.reverse_reverse] at h1
end Go.Proofs.Ytcjlbonflecbkaa
