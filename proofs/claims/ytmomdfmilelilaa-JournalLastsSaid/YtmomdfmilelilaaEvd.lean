/-
  A run of a closed call: code, deferred calls, recover, calls: a call's law out of its run.
-/
import Derived.Scope
import Derived.Tactics
import Derived.Recover
import Derived.Below
import Derived.Deep.MidRow
import Derived.Test.YtmomdfmilelilaaEvc
namespace Go.Proofs.Ytmomdfmilelilaa.Ev
set_option linter.unusedVariables false
section
variable {P : Program} {E : Env}
theorem Fact.shift {a b : Mem} (h : Fact a b) (hT : a.T = 0) (hW : a.W = 0) (t w : Nat) : Fact { a with T := t, W := w } { b with T := t ||| b.T, W := w ||| b.W } where
  next := h.next
  T := fun x hx => by unfold bit at *; rw [Nat.testBit_or, hx]; rfl
  W := fun x hx => by unfold bit at *; rw [Nat.testBit_or, hx]; rfl
  same := fun x hx hw => h.same x hx (fun hb => hw (by unfold bit at *; rw [Nat.testBit_or, hb, Bool.or_true]))
  sub := fun x hx => by
    unfold bit at hx
    rw [Nat.testBit_or, Bool.or_eq_true] at hx
    rcases hx with hx | hx
    · exact .inl hx
    · rcases h.sub x hx with h1 | h1
      · rw [hW] at h1; unfold bit at h1; simp at h1
      · refine .inr ?_
        unfold bit at *
        rw [Nat.testBit_or, h1, Bool.or_true]
  back := h.back
  wf := h.wf
  live := fun hw x hx => by
    unfold bit at hx
    rw [Nat.testBit_or, Bool.or_eq_true] at hx
    rcases hx with hx | hx
    · exact .inl hx
    · rcases h.live hw x hx with h1 | h1
      · rw [hT] at h1; unfold bit at h1; simp at h1
      · exact .inr h1
  far := fun x hx hw => h.far x hx (fun hb => hw (by unfold bit at *; rw [Nat.testBit_or, hb, Bool.or_true]))
def orT : List Rec → Nat
  | [] => 0
  | r :: rs => r.m1.T ||| orT rs
def orW : List Rec → Nat
  | [] => 0
  | r :: rs => r.m1.W ||| orW rs
theorem orT_bit {b : Nat} : ∀ {rs : List Rec} {r : Rec}, r ∈ rs → bit r.m1.T b → bit (orT rs) b
  | [], _, h, _ => by cases h
  | p :: rs, r, h, hb => by
    unfold orT bit
    rw [Nat.testBit_or, Bool.or_eq_true]
    rcases List.mem_cons.1 h with rfl | h
    · exact .inl hb
    · exact .inr (orT_bit h hb)
theorem Chain.facts (hE : EnvOk P E) {ops : Array Oper} {n k : Nat} {T Tf : Tr AV} {m mf : Mem} {rs : List Rec} (h : Chain P E ops n k T m rs Tf mf) : Fact (zeroed m) { mf with T := orT rs, W := orW rs } := by
  induction h with
  | nil => exact Fact.refl _
  | cons hk hi ho hT hm hd hr rest ih =>
    rename_i i T Tf m mf r rs
    have hf : Fact r.m0 r.m1 := by
      rcases hr with ⟨_, _, h3⟩ | ⟨_, _, _, _, h3⟩
      · exact opR_fact hE h3
      · rw [h3]; exact Fact.refl _
    rw [hm] at hf
    exact hf.trans (ih.shift rfl rfl r.m1.T r.m1.W)
def skipOf (bf : Array Nat) (k : Nat) : Option Nat → Bool
  | some j => (bf.getD k 0).testBit j
  | none => false
def dstOk (n : Nat) : Option Nat → Bool
  | some d => decide (d < n)
  | none => true
/-- the region in the text's order -/
def drawGo (P : Program) (E : Env) (ops : Array Oper) (n : Nat) (bf : Array Nat) : List Oper → Nat → Tr AV → Mem → Option Nat → Option (List Rec × Tr AV × Mem)
  | [], _, T, m, _ => some ([], T, m)
  | o :: os, k, T, m, jp =>
    if skipOf bf k jp = true then drawGo P E ops n bf os (k + 1) T m jp
    else if dstOk n o.dst = true then
      match wantE ops T n o with
      | some false =>
        match drawGo P E ops n bf os (k + 1) (setT T o.dst undefA) (zeroed m) jp with
        | some (rs, T', m') => some (⟨k, o, T, zeroed m, false, false, undefA, zeroed m⟩ :: rs, T', m')
        | none => none
      | some true =>
        match opR P E (evO E.gs T) o (zeroed m) with
        | some ((x, pan), m1) =>
          if (pan && jp.isSome) = true then none else
          match drawGo P E ops n bf os (k + 1) (setT T o.dst x) m1 (if pan then some k else jp) with
          | some (rs, T', m') => some (⟨k, o, T, zeroed m, true, pan, x, m1⟩ :: rs, T', m')
          | none => none
        | none => none
      | none => none
    else none
theorem drawGo_ok {ops : Array Oper} {n : Nat} : ∀ (os : List Oper) (k : Nat) (T : Tr AV) (m : Mem) (jp : Option Nat) (rs : List Rec) (Tf : Tr AV) (mf : Mem), (∀ i, os[i]? = ops[k + i]?) → drawGo P E ops n (Region.before ops) os k T m jp = some (rs, Tf, mf) →
    Chain P E ops n k T m rs Tf mf ∧ (∀ i, k ≤ i → i < ops.size → (∃ r ∈ rs, r.i = i) ∨ (∃ j, jp = some j ∧ bit ((Region.before ops).getD i 0) j) ∨ ∃ r ∈ rs, r.pan = true ∧ bit ((Region.before ops).getD i 0) r.i)
  | [], k, T, m, jp, rs, Tf, mf, hos, h => by
    cases h
    refine ⟨.nil, fun i hi hlt => ?_⟩
    have := hos (i - k)
    rw [show k + (i - k) = i by omega, Array.getElem?_eq_getElem hlt] at this
    simp at this
  | o :: os, k, T, m, jp, rs, Tf, mf, hos, h => by
    have ho : ops[k]? = some o := by have := hos 0; simpa using this.symm
    have hos' : ∀ i, os[i]? = ops[k + 1 + i]? := fun i => by have := hos (i + 1); rw [List.getElem?_cons_succ] at this; rw [this]; congr 1; omega
    unfold drawGo at h
    split at h
    · rename_i hskip
      obtain ⟨h1, h2⟩ := drawGo_ok os (k + 1) T m jp rs Tf mf hos' h
      refine ⟨?_, fun i hi hlt => ?_⟩
      · have mono : ∀ {k k' : Nat} {T : Tr AV} {m : Mem} {rs : List Rec}, Chain P E ops n k' T m rs Tf mf → k ≤ k' → Chain P E ops n k T m rs Tf mf := fun hc hle => by
          cases hc with
          | nil => exact .nil
          | cons hk hi ho hT hm hd hr rest => exact .cons (by omega) hi ho hT hm hd hr rest
        exact mono h1 (by omega)
      · by_cases e : i = k
        · subst e
          cases jp with
          | some j => exact .inr (.inl ⟨j, rfl, hskip⟩)
          | none => cases hskip
        · exact h2 i (by omega) hlt
    · split at h
      · rename_i hdst
        have hd : ∀ d, o.dst = some d → d < n := fun d hd => by rw [hd] at hdst; exact of_decide_eq_true hdst
        split at h
        · rename_i hw
          split at h
          · rename_i rs' T' m' hgo
            cases h
            obtain ⟨h1, h2⟩ := drawGo_ok os (k + 1) _ _ jp rs' Tf mf hos' hgo
            refine ⟨.cons (Nat.le_refl k) rfl ho rfl rfl hd (.inr ⟨rfl, rfl, hw, rfl, rfl⟩) h1, fun i hi hlt => ?_⟩
            by_cases e : i = k
            · exact .inl ⟨_, List.mem_cons_self, e.symm⟩
            · rcases h2 i (by omega) hlt with ⟨r, hr, h3⟩ | h3 | ⟨r, hr, h3⟩
              · exact .inl ⟨r, by simp [hr], h3⟩
              · exact .inr (.inl h3)
              · exact .inr (.inr ⟨r, by simp [hr], h3⟩)
          · cases h
        · rename_i hw
          split at h
          · rename_i x pan m1 hop
            split at h
            · cases h
            · rename_i hnp
              split at h
              · rename_i rs' T' m' hgo
                cases h
                obtain ⟨h1, h2⟩ := drawGo_ok os (k + 1) _ _ _ rs' Tf mf hos' hgo
                refine ⟨.cons (Nat.le_refl k) rfl ho rfl rfl hd (.inl ⟨rfl, hw, hop⟩) h1, fun i hi hlt => ?_⟩
                by_cases e : i = k
                · exact .inl ⟨_, List.mem_cons_self, e.symm⟩
                · rcases h2 i (by omega) hlt with ⟨r, hr, h3⟩ | ⟨j, hj, h3⟩ | ⟨r, hr, h3⟩
                  · exact .inl ⟨r, by simp [hr], h3⟩
                  · cases pan with
                    | true =>
                      simp only [if_true, Option.some.injEq] at hj
                      subst hj
                      exact .inr (.inr ⟨_, List.mem_cons_self, rfl, h3⟩)
                    | false => exact .inr (.inl ⟨j, hj, h3⟩)
                  · exact .inr (.inr ⟨r, by simp [hr], h3⟩)
              · cases h
          · cases h
        · cases h
      · cases h
def edgesOk : List Oper → Nat → Bool
  | [], _ => true
  | o :: os, i => o.after.all (fun e => !Region.binds .any e || decide (e.on < i)) && edgesOk os (i + 1)
theorem edges_ok : ∀ (os : List Oper) (k : Nat), edgesOk os k = true → ∀ i o, os[i]? = some o → ∀ e ∈ o.after, Region.binds .any e = true → e.on < k + i
  | [], _, _, i, o, h, _, _, _ => by simp at h
  | p :: os, k, h, i, o, ho, e, he, hb => by
    unfold edgesOk at h
    rw [Bool.and_eq_true, Array.all_eq_true'] at h
    cases i with
    | zero =>
      simp at ho
      subst ho
      have := h.1 e he
      rw [hb] at this
      simpa using this
    | succ i =>
      have := edges_ok os (k + 1) h.2 i o (by simpa using ho) e he hb
      omega
def clearT (T : Tr AV) : List Nat → Tr AV
  | [] => T
  | d :: ds => clearT (T.set d none) ds
theorem clear_tmp : ∀ (ds : List Nat) (T : Tr AV) (t : Nat), tmpE (clearT T ds) t = .any ∨ (t ∉ ds ∧ tmpE (clearT T ds) t = tmpE T t)
  | [], T, t => .inr ⟨by simp, rfl⟩
  | d :: ds, T, t => by
    unfold clearT
    rcases clear_tmp ds (T.set d none) t with h | ⟨h1, h2⟩
    · exact .inl h
    · rw [h2]
      unfold tmpE
      rw [Tr.get_set]
      by_cases e : t = d
      · rw [if_pos e]; exact .inl rfl
      · rw [if_neg e]; exact .inr ⟨by simp [e, h1], rfl⟩
def quietOk (bf : Array Nat) (r : Rec) (rs : List Rec) : Bool := rs.all fun q => q.i == r.i || (bf.getD r.i 0).testBit q.i || decide (q.m1.W = 0)
/-- what may not have come up bears nothing that is told -/
def dropR (tr : Tr AB) (a : Nat) : Nat → Tr AB
  | 0 => tr
  | n + 1 => dropR (tr.set (a + n) none) a n
theorem dropR_get (a : Nat) : ∀ (n : Nat) (tr : Tr AB) (b : Nat), (dropR tr a n).get b = if a ≤ b ∧ b < a + n then none else tr.get b
  | 0, tr, b => by unfold dropR; rw [if_neg (by omega)]
  | n + 1, tr, b => by
    unfold dropR
    rw [dropR_get a n, Tr.get_set]
    by_cases h1 : a ≤ b ∧ b < a + n
    · rw [if_pos h1, if_pos (by omega)]
    · rw [if_neg h1]
      by_cases h2 : b = a + n
      · rw [if_pos h2, if_pos (by omega)]
      · rw [if_neg h2, if_neg (by omega)]
def dropAll (bf : Array Nat) (r : Rec) : List Rec → Tr AB → Tr AB
  | [], tr => tr
  | q :: rs, tr => dropAll bf r rs (if (q.i == r.i || (bf.getD r.i 0).testBit q.i) = true then tr else dropR tr q.m0.next (q.m1.next - q.m0.next))
theorem dropAll_get (bf : Array Nat) (r : Rec) : ∀ (rs : List Rec) (tr : Tr AB) (b : Nat) (k : AB), (dropAll bf r rs tr).get b = some k → tr.get b = some k ∧ ∀ q ∈ rs, born q.m0 q.m1 b → q.i = r.i ∨ bit (bf.getD r.i 0) q.i
  | [], tr, b, k, h => ⟨h, by simp⟩
  | q :: rs, tr, b, k, h => by
    unfold dropAll at h
    obtain ⟨h1, h2⟩ := dropAll_get bf r rs _ b k h
    split at h1
    · rename_i hc
      refine ⟨h1, fun p hp hb => ?_⟩
      rcases List.mem_cons.1 hp with rfl | hp
      · rw [Bool.or_eq_true] at hc
        exact hc.imp eq_of_beq (fun z => z)
      · exact h2 p hp hb
    · rw [dropR_get] at h1
      split at h1
      · cases h1
      · rename_i hn
        refine ⟨h1, fun p hp hb => ?_⟩
        rcases List.mem_cons.1 hp with rfl | hp
        · have hb1 := hb.1
          have hb2 := hb.2
          exact absurd ⟨hb.1, by omega⟩ hn
        · exact h2 p hp hb
theorem dropAll_else (bf : Array Nat) (r : Rec) : ∀ (rs : List Rec) (tr : Tr AB) (b : Nat), (∀ q ∈ rs, ¬ born q.m0 q.m1 b) → (dropAll bf r rs tr).get b = tr.get b
  | [], tr, b, _ => rfl
  | q :: rs, tr, b, h => by
    unfold dropAll
    rw [dropAll_else bf r rs _ b (fun p hp => h p (by simp [hp]))]
    split
    · rfl
    · rw [dropR_get, if_neg]
      have := h q (by simp)
      unfold born at this
      omega
def panOf : List Rec → Option Rec
  | [] => none
  | r :: rs => if r.pan = true then some r else panOf rs
def drawE (P : Program) (E : Env) (ops : Array Oper) (st : St) : Option (ExA × St) :=
  if edgesOk ops.toList 0 = true then
    match drawGo P E ops st.n (Region.before ops) ops.toList 0 st.T st.m none with
    | some (rs, T, m) =>
      if pairsOk ops (Region.before ops) rs = true then
        match panOf rs with
        | none => some (.norm, { st with T := T, m := { m with T := st.m.T ||| orT rs, W := st.m.W ||| orW rs } })
        | some r => if (rs.all fun q => q.i == r.i || !q.pan) && quietOk (Region.before ops) r rs then some (.pan r.x, { st with T := clearT st.T (dsts ops), m := { m with tr := dropAll (Region.before ops) r rs m.tr, T := st.m.T ||| orT rs, W := st.m.W ||| orW rs } }) else none
      else none
    | none => none
  else none
theorem panOf_none : ∀ {rs : List Rec}, panOf rs = none → ∀ r ∈ rs, r.pan = false
  | [], _, r, h => by cases h
  | p :: rs, hp, r, h => by
    unfold panOf at hp
    split at hp
    · cases hp
    · rename_i hn
      rcases List.mem_cons.1 h with rfl | h
      · simpa using hn
      · exact panOf_none hp r h
theorem panOf_some : ∀ {rs : List Rec} {r : Rec}, panOf rs = some r → r ∈ rs ∧ r.pan = true
  | [], r, h => by cases h
  | p :: rs, r, h => by
    unfold panOf at h
    split at h
    · rename_i hp; cases h; exact ⟨by simp, hp⟩
    · obtain ⟨h1, h2⟩ := panOf_some h; exact ⟨by simp [h1], h2⟩
end
section
variable {P : Program} {E : Env}
/-- what is left to show behind code that is left by x -/
def Post (x : ExA) (V : Vl) (Q : Exit → Act → World → Prop) (a : Act) (w : World) : Prop :=
  match x with
  | .norm => Q .normal a w
  | .exit id => Q (.exit id) a w
  | .ret => Q .ret a w
  | .pan y => ∀ v, y.is V v → Q (.panic [{ v, recovered := false }]) a w
/-- code by its law -/
def Goes (P : Program) (E : Env) (st : St) (x : ExA) (st' : St) (wp : (Exit → Act → World → Prop) → Act → World → Prop) : Prop :=
  ∀ (V : Vl) (S : Nat → Prop) (w : World) (a : Act) (Q : Exit → Act → World → Prop), StOk E.gs V st.T st.n st.D a → Sat V S st.m w → st.m.wf → (∀ b, bit st'.m.T b → S b) → Free V st.m st'.m →
    (∀ V' a' w', Step S V st.m w V' st'.m w' → StOk E.gs V' st'.T st'.n st'.D a' → Post x V' Q a' w') → wp Q a w
theorem draw_fact (hE : EnvOk P E) {ops : Array Oper} {st st' : St} {x : ExA} (he : drawE P E ops st = some (x, st')) : Fact st.m st'.m := by
  unfold drawE at he
  split at he
  · split at he
    · rename_i rs T m hgo
      have hc := (drawGo_ok (E := E) ops.toList 0 st.T st.m none rs T m (fun i => by rw [Nat.zero_add, Array.getElem?_toList]) hgo).1
      have hf := (hc.facts hE).shift rfl rfl st.m.T st.m.W
      split at he
      · split at he
        · cases he; exact hf
        · rename_i r hp
          split at he
          · cases he
            have hn := hc.next hE
            have hout : ∀ b, b < st.m.next ∨ m.next ≤ b → (dropAll (Region.before ops) r rs m.tr).get b = m.tr.get b := fun b hb => dropAll_else _ _ _ _ _ fun q hq hbq => by
              have := hn.2.1 q hq
              have h1 := hbq.1
              have h2 := hbq.2
              omega
            have hget : ∀ b, (dropAll (Region.before ops) r rs m.tr).get b = m.tr.get b ∨ (dropAll (Region.before ops) r rs m.tr).get b = none := fun b => by
              cases hb : (dropAll (Region.before ops) r rs m.tr).get b with
              | none => exact .inr rfl
              | some k => exact .inl (dropAll_get _ _ _ _ _ _ hb).1.symm
            exact ⟨hf.next, hf.T, hf.W, fun b hb hw => (hout b (.inl hb)).trans (hf.same b hb hw), hf.sub, fun b hb hs => hf.back b hb (by
                have e := hout b (.inl hb)
                have hs' : ((dropAll (Region.before ops) r rs m.tr).get b).isSome = true := hs
                rw [e] at hs'; exact hs'), fun hw b hb => by
                rcases hget b with h1 | h1
                · exact h1.trans (hf.wf hw b hb)
                · exact h1, hf.live, fun b hb hw => (hout b (.inr hb)).trans (hf.far b hb hw)⟩
          · cases he
      · cases he
    · cases he
  · cases he
theorem draw_goes (hE : EnvOk P E) (hmix : P.follows .mixedOrders = true) {id : Nat} {ops : Array Oper} {st st' : St} {x : ExA} (he : drawE P E ops st = some (x, st')) : Goes P E st x st' ((Code.region id ops true).wp P) := by
  intro V S w a Q hok hsat hwf hS hfree hQ
  unfold drawE at he
  split at he
  case isFalse => cases he
  rename_i hedges
  split at he
  case h_2 => cases he
  rename_i rs T m hgo
  obtain ⟨hc, hcover⟩ := drawGo_ok (E := E) ops.toList 0 st.T st.m none rs T m (fun i => by rw [Nat.zero_add, Array.getElem?_toList]) hgo
  split at he
  case isFalse => cases he
  rename_i hpairs
  have hm' : st'.m.next = m.next ∧ st'.m.T = (st.m.T ||| orT rs) := by
    split at he
    · cases he; exact ⟨rfl, rfl⟩
    · split at he
      · cases he; exact ⟨rfl, rfl⟩
      · cases he
  have hfree' : Free V st.m m := fun b hb => hfree b ⟨hb.1, by rw [hm'.1]; exact hb.2⟩
  have hSr : ∀ r ∈ rs, ∀ b, bit r.m1.T b → S b := fun r hr b hb => hS b (by
    rw [hm'.2]
    unfold bit
    rw [Nat.testBit_or, Bool.or_eq_true]
    exact .inr (orT_bit hr hb))
  have hrg : RgOk P E ops ⟨rs, st.n, st.T, st.m, V, S, w.drew, a.defers⟩ T m := ⟨hE, hc, hwf, hpairs, hsat.drew, hfree', hok.gv, fun r hr b _ hb => hSr r hr b hb⟩
  have hbegin := Inv.begin hrg (a := a) hok.tmps.1 hok.tmps.2 rfl
  have hD0 : Dof (Array.replicate ops.size false) = fun _ => false := by
    funext i
    unfold Dof
    rw [Array.getD_eq_getD_getElem?, Array.getElem?_replicate]
    split <;> rfl
  have hstep : ∀ {V' : Vl} {w' : World} {mq : Mem}, mq.next = m.next → (∀ b, st'.m.get b = mq.get b) → Step S V st.m w.drew V' mq w' → Step S V st.m w V' st'.m w' := fun {V' w' mq} hq hget h => by
    have h1 := h.drew
    have hb1 : ∀ b, born st.m st'.m b → born st.m mq b := fun b x => ⟨x.1, by rw [hq, ← hm'.1]; exact x.2⟩
    have hb2 : ∀ b, born st.m mq b → born st.m st'.m b := fun b x => ⟨x.1, by rw [hm'.1, ← hq]; exact x.2⟩
    refine ⟨fun b hb => h1.keeps b (fun x => hb (hb2 b x)), ⟨fun b hb k hk => h1.sat.holds b (hb.imp (fun z => z) (hb1 b)) k (by rw [← hget]; exact hk), fun b c hb hc hbc k l p q hk hl => h1.sat.apart b c (hb.imp (fun z => z) (hb1 b)) (hc.imp (fun z => z) (hb1 c)) hbc k l p q (by rw [← hget]; exact hk) (by rw [← hget]; exact hl)⟩, h1.fr, fun b p hb => h1.fresh b p (hb1 b hb)⟩
  have hmp : st'.m.next = m.next ∧ ∀ r ∈ rs, r.pan = true → ∀ b k, st'.m.get b = some k → m.get b = some k ∧ ∀ q ∈ rs, born q.m0 q.m1 b → q.i = r.i ∨ bit ((Region.before ops).getD r.i 0) q.i := by
    refine ⟨hm'.1, fun r hr hp b k hk => ?_⟩
    split at he
    · rename_i hpan
      have := panOf_none hpan r hr
      rw [hp] at this; cases this
    · rename_i r' hpan
      split at he
      · rename_i hq2
        rw [Bool.and_eq_true] at hq2
        obtain ⟨hr', hp'⟩ := panOf_some hpan
        have hi : r.i = r'.i := by
          have := List.all_eq_true.1 hq2.1 r hr
          rw [hp, Bool.not_true, Bool.or_false] at this
          exact eq_of_beq this
        cases he
        rw [hi]
        exact dropAll_get _ _ _ _ _ _ hk
      · cases he
  refine wp_region_any hmix ?_
  refine any_ok hrg (fun i o ho e hmem hb => ?_) (fun i hi => ?_) (fun r hr hp q hq hqi hqb => ?_) (mp := st'.m) hmp.1 hmp.2 (fun V' a' w' hst hle hsz ht hd hnp => ?_) (fun r hr hp V' a' w' v hst hle hsz ht hd hv => ?_) ops.size _ V a w.drew (by simp) ?_ (by rw [hD0]; exact hbegin) (by rw [hD0]; intro i hi; cases hi) (by rw [hD0]; intro r _ _; rfl)
  · have := edges_ok ops.toList 0 hedges i o (by rw [Array.getElem?_toList]; exact ho) e hmem hb
    omega
  · rcases hcover i (by omega) hi with h1 | ⟨j, hj, _⟩ | h1
    · exact .inl h1
    · cases hj
    · exact .inr h1
  · -- quiet
    split at he
    · rename_i hpan
      have := panOf_none hpan r hr
      rw [hp] at this; cases this
    · rename_i r' hpan
      split at he
      · rename_i hq2
        rw [Bool.and_eq_true] at hq2
        obtain ⟨hone, hquiet⟩ := hq2
        obtain ⟨hr', hp'⟩ := panOf_some hpan
        have hi : r.i = r'.i := by
          have := List.all_eq_true.1 hone r hr
          rw [hp, Bool.not_true, Bool.or_false] at this
          exact eq_of_beq this
        have h2 := List.all_eq_true.1 hquiet q hq
        rw [← hi] at h2
        rw [Bool.or_eq_true, Bool.or_eq_true, decide_eq_true_eq] at h2
        rcases h2 with (h3 | h3) | h3
        · exact absurd (eq_of_beq h3) hqi
        · exact absurd h3 hqb
        · exact h3
      · cases he
  · split at he
    · cases he
      exact hQ V' a' w' (hstep rfl (fun _ => rfl) hst) ⟨hok.gv.mono hle, ⟨hsz, ht⟩, by rw [hd]; exact hok.dfr.mono hle⟩
    · rename_i r' hpan
      obtain ⟨hr', hp'⟩ := panOf_some hpan
      rw [hnp r' hr'] at hp'; cases hp'
  · split at he
    · rename_i hpan
      have := panOf_none hpan r hr
      rw [hp] at this; cases this
    · rename_i r' hpan
      split at he
      · rename_i hq2
        rw [Bool.and_eq_true] at hq2
        obtain ⟨hone, hquiet⟩ := hq2
        obtain ⟨hr', hp'⟩ := panOf_some hpan
        have hi : r = r' := hrg.inj hr hr' (by
          have := List.all_eq_true.1 hone r hr
          rw [hp, Bool.not_true, Bool.or_false] at this
          exact eq_of_beq this)
        subst hi
        cases he
        refine hQ V' a' w' (hstep (mq := ⟨dropAll (Region.before ops) r rs m.tr, m.next, st.m.T ||| orT rs, st.m.W ||| orW rs⟩) rfl (fun _ => rfl) hst) ⟨hok.gv.mono hle, ⟨hsz, fun t => ?_⟩, by rw [hd]; exact hok.dfr.mono hle⟩ v hv
        rcases clear_tmp (dsts ops) st.T t with h1 | ⟨h1, h2⟩
        · rw [h1]; exact trivial
        · rw [h2]; exact ht t h1
      · cases he
  · unfold left
    refine Nat.le_trans (List.countP_le_length) ?_
    simp
/-- an operation, in a region that goes by the text -/
theorem step_goes (hE : EnvOk P E) {ops : Array Oper} {o : Oper} {st st' : St} {x : ExA} (he : stepE P E ops st o = some (x, st')) {V : Vl} {S : Nat → Prop} {w : World} {a : Act} {K : Act → World → Prop} {Q : Exit → Act → World → Prop} (hok : StOk E.gs V st.T st.n st.D a) (hsat : Sat V S st.m w) (hwf : st.m.wf) (hS : ∀ b, bit st'.m.T b → S b) (hfree : Free V st.m st'.m)
    (hQ : ∀ V' a' w', Step S V st.m w V' st'.m w' → StOk E.gs V' st'.T st'.n st'.D a' → match x with | .norm => K a' w' | .pan y => ∀ v, y.is V' v → Q (.panic [{ v, recovered := false }]) a' w' | _ => True) :
    if Region.wanted o (yielded ops a.tmps) then o.wp P a w K Q else K (a.put o.dst undef) w := by
  have hev := evO_is hok.gv hok.tmps
  unfold stepE at he
  split at he
  · rename_i hw
    have hwant := want_ok hok.tmps hw
    rw [if_neg (by rw [hwant]; simp)]
    obtain ⟨rfl, hm, hok'⟩ := putE_ok hok (undef_is V) he
    have := hQ V (a.put o.dst undef) w (by rw [hm]; exact Step.refl hsat) hok'
    exact this
  · rename_i hw
    have hwant := want_ok hok.tmps hw
    rw [if_pos hwant]
    split at he
    · rename_i c hc
      split at he
      · rename_i f caps args m1 hd
        have hm1 := putE_mem he
        simp only at hm1
        obtain ⟨cs, vs, h1, h2, h3, h4⟩ := dfrO_does hc hsat hev hd
        subst h4
        have hok1 : StOk E.gs V st.T st.n ((f, caps, args) :: st.D) { a with defers := { target := .fn (.func f) cs.toArray, args := vs.toArray } :: a.defers } := ⟨hok.gv, hok.tmps, ⟨cs, vs, _, rfl, h1, h2, hok.dfr⟩⟩
        obtain ⟨rfl, hm, hok'⟩ := putE_ok (st := { st with D := (f, caps, args) :: st.D, m := st.m }) (a := { a with defers := { target := .fn (.func f) cs.toArray, args := vs.toArray } :: a.defers }) hok1 (undef_is V) he
        unfold Oper.wp
        rw [h3]
        exact hQ V _ w (by rw [hm]; exact Step.refl hsat) hok'
      · cases he
    · split at he
      · rename_i y m1 hop
        have hm1 := putE_mem he
        simp only at hm1
        refine opR_wp hE hop hwf hok.gv (fun y _ => hev y) hsat (fun b hb => hS b (by rw [hm1]; exact hb)) (by rw [hm1] at hfree; exact hfree) fun V' w' v hst hv => ?_
        have hle := hst.le (by rw [hm1] at hfree; exact hfree)
        obtain ⟨rfl, hm, hok'⟩ := putE_ok (st := { st with m := m1 }) (hok.mono hle) hv he
        exact hQ V' _ w' (by rw [hm]; exact hst) hok'
      · rename_i y m1 hop
        cases he
        refine opR_wp hE hop hwf hok.gv (fun y _ => hev y) hsat hS hfree fun V' w' v hst hv => ?_
        exact hQ V' a w' hst (hok.mono (hst.le hfree)) v hv
      · cases he
  · cases he
theorem step_exit {ops : Array Oper} {o : Oper} {st st' : St} {x : ExA} (he : stepE P E ops st o = some (x, st')) : x = .norm ∨ ∃ y, x = .pan y := by
  have hput : ∀ {st st' : St} {d : Option Nat} {y : AV} {x : ExA}, putE st d y = some (x, st') → x = .norm := fun h => by
    unfold putE at h
    split at h
    · cases h; rfl
    · split at h
      · cases h; rfl
      · cases h
  unfold stepE at he
  split at he
  · exact .inl (hput he)
  · split at he
    · split at he
      · exact .inl (hput he)
      · cases he
    · split at he
      · exact .inl (hput he)
      · cases he; exact .inr ⟨_, rfl⟩
      · cases he
  · cases he
theorem or_left {c : Prop} [Decidable c] {A B D : Prop} (h : if c then A else D) : if c then A ∨ B else D := by
  split at h
  · rename_i hc; rw [if_pos hc]; exact .inl h
  · rename_i hc; rw [if_neg hc]; exact h
def opsE (P : Program) (E : Env) (ops : Array Oper) : List Oper → St → Option (ExA × St)
  | [], st => some (.norm, st)
  | o :: os, st => match stepE P E ops st o with
    | some (.norm, st1) => opsE P E ops os st1
    | r => r
theorem ops_fact (hE : EnvOk P E) {ops : Array Oper} : ∀ (os : List Oper) (st st' : St) (x : ExA), opsE P E ops os st = some (x, st') → Fact st.m st'.m
  | [], st, st', x, h => by cases h; exact Fact.refl _
  | o :: os, st, st', x, h => by
    unfold opsE at h
    split at h
    · rename_i st1 h1
      exact (step_fact hE h1).trans (ops_fact hE os st1 st' x h)
    · exact step_fact hE h
end
section
variable {P : Program} {E : Env}
theorem Step.then {S : Nat → Prop} {V V1 V2 : Vl} {a b c : Mem} {w w1 w2 : World} (h1 : Fact a b) (h2 : Fact b c) (h : Step S V a w V1 b w1) (k : Step (plus S a b) V1 b w1 V2 c w2) : Step S V a w V2 c w2 := Step.trans h1.next h2.next h k
theorem ops_goes (hE : EnvOk P E) {ops : Array Oper} : ∀ (os : List Oper) (st st' : St) (x : ExA), opsE P E ops os st = some (x, st') → Goes P E st x st' (fun Q a w => wpList P ops Q os a w)
  | [], st, st', x, h => by
    cases h
    intro V S w a Q hok hsat _ _ _ hQ
    exact hQ V a w (Step.refl hsat) hok
  | o :: os, st, st', x, h => by
    intro V S w a Q hok hsat hwf hS hfree hQ
    unfold opsE at h
    unfold wpList
    split at h
    · rename_i st1 h1
      have f1 := step_fact hE h1
      have f2 := ops_fact hE os st1 st' x h
      refine or_left (step_goes hE h1 hok hsat hwf (fun b hb => hS b (f2.T b hb)) (hfree.left f2.next) fun V1 a1 w1 hst hok1 => ?_)
      refine ops_goes hE os st1 st' x h V1 (plus S st.m st1.m) w1 a1 Q hok1 hst.sat (f1.wf hwf) (fun b hb => .inl (hS b hb)) (hfree.right f1.next hst.keeps) fun V2 a2 w2 hst2 hok2 => ?_
      exact hQ V2 a2 w2 (Step.then f1 f2 hst hst2) hok2
    · rename_i hne
      rcases step_exit h with rfl | ⟨y, rfl⟩
      · exact absurd h (hne st')
      · exact or_left (step_goes hE h hok hsat hwf hS hfree fun V1 a1 w1 hst hok1 v hv => hQ V1 a1 w1 hst hok1 v hv)
def loopE (f : St → Option (ExA × St)) : Nat → St → Option (ExA × St)
  | 0, _ => none
  | k + 1, st => match f st with
    | some (.norm, st1) => loopE f k st1
    | r => r
def blockE (id : Nat) : Option (ExA × St) → Option (ExA × St)
  | some (.exit i, st) => if i = id then some (.norm, st) else some (.exit i, st)
  | r => r
/-- code -/
def codeE (P : Program) (E : Env) (fuel : Nat) : Code → St → Option (ExA × St)
  | .skip, st => some (.norm, st)
  | .region _ ops draw, st => if draw = true then drawE P E ops st else opsE P E ops ops.toList st
  | .seq x y, st => match codeE P E fuel x st with
    | some (.norm, st1) => codeE P E fuel y st1
    | r => r
  | .cond c x y, st => match evO E.gs st.T c with
    | .lit (.bool t) => if t = true then codeE P E fuel x st else codeE P E fuel y st
    | _ => none
  | .block id x, st => blockE id (codeE P E fuel x st)
  | .loop x, st => loopE (codeE P E fuel x) fuel st
  | .exit id, st => some (.exit id, st)
  | .scope x, st => codeE P E fuel x st
  | .label _, st => some (.norm, st)
  | .ret, st => some (.ret, st)
  | _, _ => none
theorem loop_fact {f : St → Option (ExA × St)} (hf : ∀ st st' x, f st = some (x, st') → Fact st.m st'.m) : ∀ (k : Nat) (st st' : St) (x : ExA), loopE f k st = some (x, st') → Fact st.m st'.m
  | 0, _, _, _, h => by cases h
  | k + 1, st, st', x, h => by
    unfold loopE at h
    split at h
    · rename_i st1 h1; exact (hf _ _ _ h1).trans (loop_fact hf k st1 st' x h)
    · exact hf _ _ _ h
theorem block_some {id : Nat} {r : Option (ExA × St)} {x : ExA} {st' : St} (h : blockE id r = some (x, st')) : ∃ y, r = some (y, st') ∧ ((y = .exit id ∧ x = .norm) ∨ (y ≠ .exit id ∧ x = y)) := by
  unfold blockE at h
  split at h
  · rename_i i st
    split at h
    · rename_i e; cases h; exact ⟨_, rfl, .inl ⟨by rw [e], rfl⟩⟩
    · rename_i e; cases h; exact ⟨_, rfl, .inr ⟨fun k => by cases k; exact e rfl, rfl⟩⟩
  · rename_i hne
    refine ⟨x, h, .inr ⟨fun e => ?_, rfl⟩⟩
    subst e
    exact hne _ _ h
theorem code_fact (hE : EnvOk P E) {fuel : Nat} : ∀ (c : Code) (st st' : St) (x : ExA), codeE P E fuel c st = some (x, st') → Fact st.m st'.m
  | .skip, st, st', x, h => by cases h; exact Fact.refl _
  | .region _ ops draw, st, st', x, h => by
    unfold codeE at h
    split at h
    · exact draw_fact hE h
    · exact ops_fact hE _ _ _ _ h
  | .seq a b, st, st', x, h => by
    unfold codeE at h
    split at h
    · rename_i st1 h1; exact (code_fact hE a st st1 _ h1).trans (code_fact hE b st1 st' x h)
    · exact code_fact hE a st st' x h
  | .cond c a b, st, st', x, h => by
    unfold codeE at h
    split at h
    · split at h
      · exact code_fact hE a st st' x h
      · exact code_fact hE b st st' x h
    · cases h
  | .block id a, st, st', x, h => by
    unfold codeE at h
    obtain ⟨y, hy, _⟩ := block_some h
    exact code_fact hE a st st' y hy
  | .loop a, st, st', x, h => by
    unfold codeE at h
    exact loop_fact (fun st st' x h => code_fact hE a st st' x h) fuel st st' x h
  | .exit id, st, st', x, h => by cases h; exact Fact.refl _
  | .scope a, st, st', x, h => by unfold codeE at h; exact code_fact hE a st st' x h
  | .label _, st, st', x, h => by cases h; exact Fact.refl _
  | .ret, st, st', x, h => by cases h; exact Fact.refl _
  | .rangeFunc .., _, _, _, h => by cases h
  | .goto _, _, _, _, h => by cases h
  | .refuse _, _, _, _, h => by cases h
/-- a loop that stands at its head -/
def LoopWp (P : Program) (c : Code) (Q : Exit → Act → World → Prop) (a : Act) (w : World) : Prop :=
  ∀ (b : Frame) (k : List Item) (cs : List Frame), ∃ e a' w', Q e a' w' ∧ Arrives P (lone (b.at a (.code c :: .inLoop c :: k)) cs w) b k cs e a' w'
theorem wp_of_loop {c : Code} {Q : Exit → Act → World → Prop} {a : Act} {w : World} (h : LoopWp P c Q a w) : (Code.loop c).wp P Q a w := fun b k cs =>
  let ⟨e, a', w', hq, harr⟩ := h b k cs
  ⟨e, a', w', hq, .of_steps (.one step_loop) harr⟩
theorem loop_round {c : Code} {Q : Exit → Act → World → Prop} {a : Act} {w : World} (h : c.wp P (Exit.then (LoopWp P c Q) Q) a w) : LoopWp P c Q a w := by
  intro b k cs
  obtain ⟨e, a₁, w₁, hq, harr⟩ := h b (.inLoop c :: k) cs
  cases e with
  | normal =>
    obtain ⟨e₂, a₂, w₂, hq₂, harr₂⟩ := hq b k cs
    exact ⟨e₂, a₂, w₂, hq₂, .of_steps (Steps.trans harr (.one step_inLoop)) harr₂⟩
  | exit id => exact ⟨_, a₁, w₁, hq, .pass (x := .inLoop c) rfl (fun _ _ => .inl (by simp)) harr⟩
  | goto l => exact ⟨_, a₁, w₁, hq, .pass (x := .inLoop c) rfl (fun _ _ => .inl (by simp)) harr⟩
  | ret => exact ⟨_, a₁, w₁, hq, .pass (x := .inLoop c) rfl (fun _ _ => .inl (by simp)) harr⟩
  | panic ch => exact ⟨_, a₁, w₁, hq, .pass (x := .inLoop c) rfl (fun _ _ => .inl (by simp)) harr⟩
  | outgrown => exact ⟨_, a₁, w₁, hq, .pass (x := .inLoop c) rfl (fun _ _ => .inl (by simp)) harr⟩
theorem Post.then {x : ExA} {V : Vl} {Q : Exit → Act → World → Prop} {K : Act → World → Prop} {a : Act} {w : World} (hx : x ≠ .norm) (h : Post x V Q a w) : Post x V (Exit.then K Q) a w := by
  cases x with
  | norm => exact absurd rfl hx
  | exit id => exact h
  | ret => exact h
  | pan y => exact h
theorem loop_goes {c : Code} {f : St → Option (ExA × St)} (hf : ∀ st st' x, f st = some (x, st') → Fact st.m st'.m) (hg : ∀ st st' x, f st = some (x, st') → Goes P E st x st' (c.wp P)) :
    ∀ (k : Nat) (st st' : St) (x : ExA), loopE f k st = some (x, st') → Goes P E st x st' (LoopWp P c)
  | 0, _, _, _, h => by cases h
  | k + 1, st, st', x, h => by
    intro V S w a Q hok hsat hwf hS hfree hQ
    unfold loopE at h
    split at h
    · rename_i st1 h1
      have f1 := hf _ _ _ h1
      have f2 := loop_fact hf k st1 st' x h
      refine loop_round (hg _ _ _ h1 V S w a _ hok hsat hwf (fun b hb => hS b (f2.T b hb)) (hfree.left f2.next) fun V1 a1 w1 hst hok1 => ?_)
      refine loop_goes hf hg k st1 st' x h V1 (plus S st.m st1.m) w1 a1 Q hok1 hst.sat (f1.wf hwf) (fun b hb => .inl (hS b hb)) (hfree.right f1.next hst.keeps) fun V2 a2 w2 hst2 hok2 => ?_
      exact hQ V2 a2 w2 (Step.then f1 f2 hst hst2) hok2
    · rename_i hne
      refine loop_round (hg _ _ _ h V S w a _ hok hsat hwf hS hfree fun V1 a1 w1 hst hok1 => ?_)
      exact Post.then (fun e => by subst e; exact hne _ h) (hQ V1 a1 w1 hst hok1)
theorem code_goes (hE : EnvOk P E) (hmix : P.follows .mixedOrders = true) {fuel : Nat} : ∀ (c : Code) (st st' : St) (x : ExA), codeE P E fuel c st = some (x, st') → Goes P E st x st' (c.wp P)
  | .skip, st, st', x, h => by
    cases h
    intro V S w a Q hok hsat _ _ _ hQ
    exact wp_skip (hQ V a w (Step.refl hsat) hok)
  | .region id ops draw, st, st', x, h => by
    unfold codeE at h
    split at h
    · rename_i hd
      subst hd
      exact draw_goes hE hmix h
    · rename_i hd
      obtain rfl : draw = false := by simpa using hd
      intro V S w a Q hok hsat hwf hS hfree hQ
      exact wp_region_list (ops_goes hE _ _ _ _ h V S w a Q hok hsat hwf hS hfree hQ)
  | .seq c d, st, st', x, h => by
    intro V S w a Q hok hsat hwf hS hfree hQ
    unfold codeE at h
    split at h
    · rename_i st1 h1
      have f1 := code_fact hE c st st1 _ h1
      have f2 := code_fact hE d st1 st' x h
      refine wp_seq (code_goes hE hmix c st st1 _ h1 V S w a _ hok hsat hwf (fun b hb => hS b (f2.T b hb)) (hfree.left f2.next) fun V1 a1 w1 hst hok1 => ?_)
      refine code_goes hE hmix d st1 st' x h V1 (plus S st.m st1.m) w1 a1 Q hok1 hst.sat (f1.wf hwf) (fun b hb => .inl (hS b hb)) (hfree.right f1.next hst.keeps) fun V2 a2 w2 hst2 hok2 => ?_
      exact hQ V2 a2 w2 (Step.then f1 f2 hst hst2) hok2
    · rename_i hne
      refine wp_seq (code_goes hE hmix c st st' x h V S w a _ hok hsat hwf hS hfree fun V1 a1 w1 hst hok1 => ?_)
      exact Post.then (fun e => by subst e; exact hne _ h) (hQ V1 a1 w1 hst hok1)
  | .cond c y z, st, st', x, h => by
    intro V S w a Q hok hsat hwf hS hfree hQ
    unfold codeE at h
    split at h
    · rename_i t hc
      have hev := evO_is hok.gv hok.tmps c
      rw [hc] at hev
      split at h
      · rename_i ht
        subst ht
        exact wp_cond_true hev (code_goes hE hmix y st st' x h V S w a Q hok hsat hwf hS hfree hQ)
      · rename_i ht
        obtain rfl : t = false := by simpa using ht
        exact wp_cond_false hev (code_goes hE hmix z st st' x h V S w a Q hok hsat hwf hS hfree hQ)
    · cases h
  | .block id c, st, st', x, h => by
    intro V S w a Q hok hsat hwf hS hfree hQ
    unfold codeE at h
    obtain ⟨y, hy, hcase⟩ := block_some h
    refine wp_block (code_goes hE hmix c st st' y hy V S w a _ hok hsat hwf hS hfree fun V1 a1 w1 hst hok1 => ?_)
    have := hQ V1 a1 w1 hst hok1
    rcases hcase with ⟨rfl, rfl⟩ | ⟨hne, rfl⟩
    · show (if id = id then Q .normal a1 w1 else _)
      rw [if_pos rfl]; exact this
    · cases x with
      | norm => exact this
      | exit i =>
        show (if i = id then _ else Q (.exit i) a1 w1)
        rw [if_neg (fun e => hne (by rw [e]))]; exact this
      | ret => exact this
      | pan y => exact this
  | .loop c, st, st', x, h => by
    intro V S w a Q hok hsat hwf hS hfree hQ
    unfold codeE at h
    exact wp_of_loop (loop_goes (fun st st' x h => code_fact hE c st st' x h) (fun st st' x h => code_goes hE hmix c st st' x h) fuel st st' x h V S w a Q hok hsat hwf hS hfree hQ)
  | .exit id, st, st', x, h => by
    cases h
    intro V S w a Q hok hsat _ _ _ hQ
    exact wp_exit (hQ V a w (Step.refl hsat) hok)
  | .scope c, st, st', x, h => by
    intro V S w a Q hok hsat hwf hS hfree hQ
    unfold codeE at h
    refine wp_scope_straight (code_goes hE hmix c st st' x h V S w a _ hok hsat hwf hS hfree fun V1 a1 w1 hst hok1 => ?_)
    have := hQ V1 a1 w1 hst hok1
    cases x <;> exact this
  | .label _, st, st', x, h => by
    cases h
    intro V S w a Q hok hsat _ _ _ hQ
    exact wp_label (hQ V a w (Step.refl hsat) hok)
  | .ret, st, st', x, h => by
    cases h
    intro V S w a Q hok hsat _ _ _ hQ
    exact wp_ret (hQ V a w (Step.refl hsat) hok)
  | .rangeFunc .., _, _, _, h => by cases h
  | .goto _, _, _, _, h => by cases h
  | .refuse _, _, _, _, h => by cases h
end
section
variable {P : Program} {E : Env}
theorem load_val {S : Nat → Prop} {V : Vl} {m m' : Mem} {w : World} (h : Sat V S m w) {t : TypeId} {x y : AV} {v : Value} (hx : x.is V v) (hS : ∀ b, bit m'.T b → S b) (he : loadE P t x m = some (y, m')) :
    ∃ a u, v = .pointer (some a) ∧ (loadVar t a).run P w = .ok u w ∧ y.is V u := by
  unfold loadE at he
  split at he
  case h_2 => cases he
  rename_i b off
  obtain ⟨p, hp, rfl⟩ := hx
  refine ⟨⟨p.1, off, none⟩, ?_⟩
  split at he
  case h_2 => cases he
  rename_i elem vs ex hb
  split at he
  · rename_i hagg
    split at he
    case h_2 => cases he
    rename_i n hn
    split at he
    case isFalse => cases he
    rename_i hlen
    cases he
    obtain ⟨p', C, fr, hp', hh, hC, hlp, ha, _⟩ := h.holds b (hS b ((bit_or _ _ _).2 (.inr rfl))) _ hb
    rw [hp] at hp'
    cases hp'
    refine ⟨.agg ((C.toList.drop off).take n).toArray, rfl, ?_, ?_⟩
    · unfold loadVar
      rw [Sem.run_bind, run_isAgg hagg]
      simp only [Result.andThen_ok, if_true]
      rw [Sem.run_bind, run_sizeOf hn]
      simp only [Result.andThen_ok]
      have hl := run_loadCells_list (P := P) w ⟨p.1, off, none⟩ ((C.toList.drop off).take n) (fun j u hu => by
        rw [addr_add, cell_of_row w p.1 _ C elem fr hh]
        rw [List.getElem?_take] at hu
        split at hu
        · rw [List.getElem?_drop, Array.getElem?_toList] at hu; exact hu
        · cases hu)
      rw [show ((C.toList.drop off).take n).length = n by simp; omega] at hl
      rw [Sem.run_bind, hl]
      rfl
    · refine mkAgg_is ?_
      have h2 := AV.are_take n (AV.are_drop off ha)
      rw [List.drop_take, List.take_take, Nat.min_eq_left (by omega)] at h2
      exact h2
  · rename_i hagg
    split at he
    case h_2 => cases he
    rename_i y' hy
    cases he
    obtain ⟨p', C, fr, hp', hh, hC, hlp, ha, _⟩ := h.holds b (hS b ((bit_or _ _ _).2 (.inr rfl))) _ hb
    rw [hp] at hp'
    cases hp'
    obtain ⟨u, hu, hyu, _⟩ := cell_in hh ha hy
    refine ⟨u, rfl, ?_, hyu⟩
    unfold loadVar
    rw [Sem.run_bind, run_isAgg hagg]
    simp [load, Sem.run, hu]
  · cases he
theorem load_touch {t : TypeId} {x y : AV} {m m' : Mem} (he : loadE P t x m = some (y, m')) : ∃ b, m' = m.touch b := by
  unfold loadE at he
  repeat' (split at he)
  all_goals first | (cases he; done) | (cases he; exact ⟨_, rfl⟩)
/-- a function's results, read -/
def resE (P : Program) (T : Tr AV) : List ResultVar → Mem → Option (List AV × Mem)
  | [], m => some ([], m)
  | .tmp t :: rs, m => match resE P T rs m with | some (l, m) => some (tmpE T t :: l, m) | none => none
  | .cell a t :: rs, m => match loadE P t (tmpE T a) m with
    | some (x, m1) => match resE P T rs m1 with | some (l, m) => some (x :: l, m) | none => none
    | none => none
theorem res_fact {T : Tr AV} : ∀ {rs : List ResultVar} {m m' : Mem} {l : List AV}, resE P T rs m = some (l, m') → Fact m m'
  | [], m, m', l, h => by cases h; exact Fact.refl _
  | .tmp t :: rs, m, m', l, h => by
    unfold resE at h
    split at h
    · rename_i hr; cases h; exact res_fact hr
    · cases h
  | .cell a t :: rs, m, m', l, h => by
    unfold resE at h
    split at h
    · rename_i hl
      split at h
      · rename_i hr; cases h; exact (load_fact hl).trans (res_fact hr)
      · cases h
    · cases h
def resSem (tmps : Array Value) : ResultVar → Sem Value
  | .tmp t => pure (tmps.getD t undef)
  | .cell a t => do loadVar t (← asAddr (tmps.getD a undef))
theorem res_ran {T : Tr AV} {n : Nat} {tmps : Array Value} {V : Vl} {S : Nat → Prop} {w : World} (ht : TmpsOk V T n tmps) : ∀ {rs : List ResultVar} {m m' : Mem} {l : List AV}, Sat V S m w → (∀ b, bit m'.T b → S b) → resE P T rs m = some (l, m') →
    (∃ vs, AV.are V l vs ∧ (rs.mapM (resSem tmps)).run P w = .ok vs w) ∧ Step S V m w V m' w
  | [], m, m', l, hs, _, h => by cases h; exact ⟨⟨[], rfl, rfl⟩, Step.refl hs⟩
  | .tmp t :: rs, m, m', l, hs, hS, h => by
    unfold resE at h
    split at h
    · rename_i l' m1 hr
      cases h
      obtain ⟨⟨vs, h1, h2⟩, h3⟩ := res_ran ht hs hS hr
      refine ⟨⟨tmps.getD t undef :: vs, ⟨_, _, rfl, ht.2 t, h1⟩, ?_⟩, h3⟩
      rw [List.mapM_cons, Sem.run_bind]
      rw [show resSem tmps (.tmp t) = pure (tmps.getD t undef) from rfl]
      simp only [Sem.run_pure, Result.andThen_ok]
      rw [Sem.run_bind, h2]
      rfl
    · cases h
  | .cell a t :: rs, m, m', l, hs, hS, h => by
    unfold resE at h
    split at h
    · rename_i x m1 hl
      split at h
      · rename_i l' m2 hr
        cases h
        have hf := res_fact hr
        obtain ⟨ad, u, ha, hu, hx⟩ := load_val hs (ht.2 a) (fun b hb => hS b (hf.T b hb)) hl
        obtain ⟨b, hb⟩ := load_touch hl
        have hs1 : Sat V S m1 w := by rw [hb]; exact hs.touch b
        obtain ⟨⟨vs, h1, h2⟩, h3⟩ := res_ran ht hs1 hS hr
        refine ⟨⟨u :: vs, ⟨_, _, rfl, hx, h1⟩, ?_⟩, ?_⟩
        · rw [List.mapM_cons, Sem.run_bind]
          have e1 : resSem tmps (.cell a t) = loadVar t ad := by
            show (do loadVar t (← asAddr (tmps.getD a undef)) : Sem Value) = _
            rw [ha]; rfl
          rw [e1, hu]
          simp only [Result.andThen_ok]
          rw [Sem.run_bind, h2]
          rfl
        · have e : plus S m m1 = S := by
            funext c; unfold plus born; rw [eq_iff_iff]
            exact ⟨fun z => z.resolve_right (by rw [hb]; show ¬ (_ ∧ _ < m.next); omega), .inl⟩
          exact Step.trans (b := m1) (by rw [hb]; exact Nat.le_refl _) hf.next (by rw [hb]; exact Step.touch hs b) (by rw [e]; exact h3)
      · cases h
    · cases h
def oneOf (l : List AV) : AV := match l with | [x] => x | l => mkTup l
theorem results_ran {fn : Func} {rs : List ResultVar} (hrs : fn.results.toList = rs) {T : Tr AV} {n : Nat} {tmps : Array Value} {V : Vl} {S : Nat → Prop} {w : World} (ht : TmpsOk V T n tmps) {m m' : Mem} {l : List AV} (hs : Sat V S m w) (hS : ∀ b, bit m'.T b → S b) (h : resE P T rs m = some (l, m')) :
    (∃ v, (results fn tmps).run P w = .ok v w ∧ (oneOf l).is V v) ∧ Step S V m w V m' w := by
  obtain ⟨⟨vs, h1, h2⟩, h3⟩ := res_ran (P := P) ht hs hS h
  refine ⟨⟨if h : vs.toArray.size = 1 then vs.toArray[0] else .tuple vs.toArray, ?_, ?_⟩, h3⟩
  · unfold results
    rw [Array.mapM_eq_mapM_toList, hrs]
    rw [Sem.run_bind]
    have hm : (List.toArray <$> rs.mapM (resSem tmps)).run P w = .ok vs.toArray w := by
      rw [map_eq_pure_bind, Sem.run_bind, h2]; rfl
    show ((List.toArray <$> rs.mapM (resSem tmps)).run P w).andThen _ = _
    rw [hm]
    rfl
  · have hlen := AV.are_length h1
    unfold oneOf
    split
    · rename_i x
      obtain ⟨v, vs', rfl, hv, hn⟩ := h1
      obtain rfl : vs' = [] := hn
      exact hv
    · rename_i hne
      rw [dif_neg]
      · exact mkTup_is h1
      · intro hsz
        simp at hsz
        rw [hlen] at hsz
        match l, hsz with
        | [x], _ => exact hne x rfl
end
section
variable {P : Program} {E : Env}
/-- how a frame whose deferred calls are made stands -/
inductive AMode where
  | ret
  | pan (x : AV) (recovered : Bool)
def ModeIs (V : Vl) : AMode → FrameMode → Prop
  | .ret, u => u = .returning
  | .pan x r, u => ∃ v, x.is V v ∧ u = .panicking [{ v, recovered := r }]
theorem ModeIs.mono {V V' : Vl} (h : V.le V') : ∀ {x : AMode} {u : FrameMode}, ModeIs V x u → ModeIs V' x u
  | .ret, _, k => k
  | .pan _ _, _, k => by obtain ⟨v, h1, h2⟩ := k; exact ⟨v, h1.mono h, h2⟩
/-- recover in a deferred call -/
def recE : AMode → AV × AMode
  | .pan x false => (x, .pan x true)
  | u => (.lit .nilIface, u)
def isRecOp : Op → Bool
  | .call { callee := .builtin .recover, .. } => true
  | _ => false
def isRcv : Option (OR × Mem) → Bool
  | some (.rcv, _) => true
  | _ => false
def isRec (P : Program) (E : Env) (st : St) (o : Oper) : Bool := isRecOp o.op && isRcv (pureO P (evO E.gs st.T) o st.m)
def dopsE (P : Program) (E : Env) (ops : Array Oper) : List Oper → AMode → St → Option (ExA × AMode × St)
  | [], u, st => some (.norm, u, st)
  | o :: os, u, st =>
    if wantE ops st.T st.n o = some true ∧ isRec P E st o = true then
      match putE st o.dst (recE u).1 with
      | some (_, st1) => dopsE P E ops os (recE u).2 st1
      | none => none
    else match stepE P E ops st o with
      | some (.norm, st1) => dopsE P E ops os u st1
      | some (x, st1) => some (x, u, st1)
      | none => none
def dcodeE (P : Program) (E : Env) (fuel : Nat) : Code → AMode → St → Option (ExA × AMode × St)
  | .seq x y, u, st => match dcodeE P E fuel x u st with
    | some (.norm, u1, st1) => dcodeE P E fuel y u1 st1
    | r => r
  | .cond c x y, u, st => match evO E.gs st.T c with
    | .lit (.bool t) => if t = true then dcodeE P E fuel x u st else dcodeE P E fuel y u st
    | _ => none
  | .region id ops false, u, st => dopsE P E ops ops.toList u st
  | c, u, st => match codeE P E fuel c st with
    | some (x, st1) => some (x, u, st1)
    | none => none
theorem dops_fact (hE : EnvOk P E) {ops : Array Oper} : ∀ (os : List Oper) (u u' : AMode) (st st' : St) (x : ExA), dopsE P E ops os u st = some (x, u', st') → Fact st.m st'.m
  | [], u, u', st, st', x, h => by cases h; exact Fact.refl _
  | o :: os, u, u', st, st', x, h => by
    unfold dopsE at h
    split at h
    · split at h
      · rename_i y st1 hp
        have := dops_fact hE os _ u' st1 st' x h
        rw [putE_mem hp] at this
        exact this
      · cases h
    · split at h
      · rename_i st1 h1; exact (step_fact hE h1).trans (dops_fact hE os u u' st1 st' x h)
      · rename_i y st1 _ h1; cases h; exact step_fact hE h1
      · cases h
theorem dcode_fact (hE : EnvOk P E) {fuel : Nat} : ∀ (c : Code) (u u' : AMode) (st st' : St) (x : ExA), dcodeE P E fuel c u st = some (x, u', st') → Fact st.m st'.m := by
  have other : ∀ (c : Code) (u u' : AMode) (st st' : St) (x : ExA), (match codeE P E fuel c st with | some (x, st1) => some (x, u, st1) | none => none) = some (x, u', st') → Fact st.m st'.m := fun c u u' st st' x h => by
    split at h
    · rename_i h1; cases h; exact code_fact hE _ _ _ _ h1
    · cases h
  intro c
  induction c with
  | seq a b iha ihb =>
    intro u u' st st' x h
    unfold dcodeE at h
    split at h
    · rename_i u1 st1 h1; exact (iha _ _ _ _ _ h1).trans (ihb _ _ _ _ _ h)
    · exact iha _ _ _ _ _ h
  | cond c a b iha ihb =>
    intro u u' st st' x h
    unfold dcodeE at h
    split at h
    · split at h
      · exact iha _ _ _ _ _ h
      · exact ihb _ _ _ _ _ h
    · cases h
  | region id ops draw =>
    intro u u' st st' x h
    cases draw with
    | false => exact dops_fact hE _ _ _ _ _ _ h
    | true => exact other (.region id ops true) u u' st st' x h
  | skip => intro u u' st st' x h; exact other .skip u u' st st' x h
  | block i c ih => intro u u' st st' x h; exact other (.block i c) u u' st st' x h
  | loop c ih => intro u u' st st' x h; exact other (.loop c) u u' st st' x h
  | rangeFunc f p a b iha ihb => intro u u' st st' x h; exact other (.rangeFunc f p a b) u u' st st' x h
  | exit i => intro u u' st st' x h; exact other (.exit i) u u' st st' x h
  | scope c ih => intro u u' st st' x h; exact other (.scope c) u u' st st' x h
  | label l => intro u u' st st' x h; exact other (.label l) u u' st st' x h
  | goto l => intro u u' st st' x h; exact other (.goto l) u u' st st' x h
  | ret => intro u u' st st' x h; exact other .ret u u' st st' x h
  | refuse y => intro u u' st st' x h; exact other (.refuse y) u u' st st' x h
/-- what is left to show behind a deferred call's code -/
def PostS (x : ExA) (V : Vl) (Q : Exit → Act → List Frame → World → Prop) (a : Act) (cs : List Frame) (w : World) : Prop := Post x V (fun e a w => Q e a cs w) a w
def DGoes (P : Program) (E : Env) (u : AMode) (st : St) (x : ExA) (u' : AMode) (st' : St) (wp : (Exit → Act → List Frame → World → Prop) → Act → List Frame → World → Prop) : Prop :=
  ∀ (V : Vl) (S : Nat → Prop) (w : World) (a : Act) (Q : Exit → Act → List Frame → World → Prop) (c₀ : Frame) (cs : List Frame), StOk E.gs V st.T st.n st.D a → ModeIs V u c₀.mode → Sat V S st.m w → st.m.wf → (∀ b, bit st'.m.T b → S b) → Free V st.m st'.m →
    (∀ V' a' w' uc, Step S V st.m w V' st'.m w' → StOk E.gs V' st'.T st'.n st'.D a' → ModeIs V' u' uc → PostS x V' Q a' ({ c₀ with mode := uc } :: cs) w') → wp Q a (c₀ :: cs) w
theorem frame_same (c : Frame) : ({ c with mode := c.mode } : Frame) = c := rfl
theorem dops_goes (hE : EnvOk P E) {ops : Array Oper} : ∀ (os : List Oper) (k : Nat), (∀ j, os[j]? = ops[k + j]?) → ∀ (u u' : AMode) (st st' : St) (x : ExA), dopsE P E ops os u st = some (x, u', st') → DGoes P E u st x u' st' (fun Q a cs w => wpOpsS P ops Q (List.range' k os.length) a cs w)
  | [], k, _, u, u', st, st', x, h => by
    cases h
    intro V S w a Q c₀ cs hok hm hsat _ _ _ hQ
    exact hQ V a w c₀.mode (Step.refl hsat) hok hm
  | o :: os, k, hos, u, u', st, st', x, h => by
    intro V S w a Q c₀ cs hok hm hsat hwf hS hfree hQ
    have ho : ops[k]? = some o := by have := hos 0; simpa using this.symm
    have hos' : ∀ j, os[j]? = ops[k + 1 + j]? := fun j => by have := hos (j + 1); rw [List.getElem?_cons_succ] at this; rw [this]; congr 1; omega
    rw [show (o :: os).length = os.length + 1 from rfl, List.range'_succ]
    simp only [wpOpsS, ho]
    unfold dopsE at h
    split at h
    · rename_i hrec
      obtain ⟨hw, hrec⟩ := hrec
      have hwant := want_ok hok.tmps hw
      rw [if_pos hwant]
      have hrun : (execOp a.eval o).run P w = .ok .recover w := by
        unfold isRec at hrec
        rw [Bool.and_eq_true] at hrec
        have h2 := hrec.2
        unfold isRcv at h2
        split at h2
        · rename_i m1 hop
          exact (pureO_does (V := V) hsat (evO_is hok.gv hok.tmps) hop).1
        · cases h2
      simp only [hrun]
      split at h
      · rename_i y st1 hp
        have hrecd : ∃ v uc', ModeIs V (recE u).2 uc' ∧ (recE u).1.is V v ∧ ((∃ cs', recoverD (c₀ :: cs) = some (v, cs') ∧ cs' = { c₀ with mode := uc' } :: cs) ∨ (recoverD (c₀ :: cs) = none ∧ v = .nilIface ∧ uc' = c₀.mode)) := by
          cases u with
          | ret =>
            have hu : c₀.mode = .returning := hm
            exact ⟨.nilIface, c₀.mode, hm, rfl, .inr ⟨by simp only [recoverD, hu], rfl, rfl⟩⟩
          | pan z r =>
            obtain ⟨v, hv, hu⟩ := hm
            cases r with
            | false => exact ⟨v, .panicking [{ v, recovered := true }], ⟨v, hv, rfl⟩, hv, .inl ⟨_, by simp only [recoverD, hu], rfl⟩⟩
            | true => exact ⟨.nilIface, c₀.mode, ⟨v, hv, hu⟩, rfl, .inr ⟨by simp only [recoverD, hu], rfl, rfl⟩⟩
        obtain ⟨v, uc', hm', hv, hr⟩ := hrecd
        obtain ⟨rfl, hme, hok'⟩ := putE_ok hok hv hp
        have f2 := dops_fact hE os _ u' st1 st' x h
        have ih := dops_goes hE os (k + 1) hos' _ u' st1 st' x h V S w (a.put o.dst v) Q { c₀ with mode := uc' } cs hok' hm' (by rw [hme]; exact hsat) (by rw [hme]; exact hwf) hS (by rw [hme]; exact hfree) (fun V' a' w' uc hst hok2 hm2 => hQ V' a' w' uc (by rw [hme] at hst; exact hst) hok2 hm2)
        rcases hr with ⟨cs', h1, rfl⟩ | ⟨h1, rfl, rfl⟩
        · rw [h1]; exact ih
        · rw [h1]; exact ih
      · cases h
    · have conv : ∀ {K : Act → World → Prop} {Q' : Exit → Act → World → Prop}, (∀ a w, K a w → wpOpsS P ops Q (List.range' (k + 1) os.length) a (c₀ :: cs) w) → (∀ e a w, Q' e a w → Q e a (c₀ :: cs) w) → (if Region.wanted o (yielded ops a.tmps) then o.wp P a w K Q' else K (a.put o.dst undef) w) →
          (if Region.wanted o (yielded ops a.tmps) then
            (match (execOp a.eval o).run P w with
            | .ok .recover w' => match recoverD (c₀ :: cs) with
              | some (v, cs') => wpOpsS P ops Q (List.range' (k + 1) os.length) (a.put o.dst v) cs' w'
              | none => wpOpsS P ops Q (List.range' (k + 1) os.length) (a.put o.dst .nilIface) (c₀ :: cs) w'
            | r => o.upon P a (fun a' w' => wpOpsS P ops Q (List.range' (k + 1) os.length) a' (c₀ :: cs) w') (fun e a' w' => Q e a' (c₀ :: cs) w') r)
          else wpOpsS P ops Q (List.range' (k + 1) os.length) (a.put o.dst undef) (c₀ :: cs) w) := fun {K Q'} hK hQ' hh => by
        split at hh
        · rename_i hw
          rw [if_pos hw]
          have h2 : o.wp P a w (fun a' w' => wpOpsS P ops Q (List.range' (k + 1) os.length) a' (c₀ :: cs) w') (fun e a' w' => Q e a' (c₀ :: cs) w') := by
            have h3 : o.wp P a w (fun a' w' => wpOpsS P ops Q (List.range' (k + 1) os.length) a' (c₀ :: cs) w') Q' := Oper.wp_mono hK hh
            unfold Oper.wp at h3 ⊢
            generalize (execOp a.eval o).run P w = r at h3 ⊢
            cases r with
            | ok n w' =>
              cases n <;> simp only [Oper.upon] at h3 ⊢ <;> first
                | exact h3
                | exact Calls.mono h3 (fun e w'' he => by
                    cases e with
                    | returned v => exact he
                    | panicked c => exact hQ' _ _ _ he
                    | outgrown => obtain ⟨a0, w0, h0⟩ := he; exact ⟨a0, w0, hQ' _ _ _ h0⟩)
            | halt x w' => cases x <;> simp only [Oper.upon] at h3 ⊢ <;> first | exact h3 | exact hQ' _ _ _ h3
          unfold Oper.wp at h2
          split
          · rename_i w' hr
            rw [hr] at h2
            exact h2.elim
          · exact h2
        · rename_i hw
          rw [if_neg hw]
          exact hK _ _ hh
      split at h
      · rename_i st1 h1
        have f1 := step_fact hE h1
        have f2 := dops_fact hE os u u' st1 st' x h
        refine conv (K := fun a w => wpOpsS P ops Q (List.range' (k + 1) os.length) a (c₀ :: cs) w) (Q' := fun e a w => Q e a (c₀ :: cs) w) (fun _ _ z => z) (fun _ _ _ z => z) ?_
        refine step_goes hE h1 hok hsat hwf (fun b hb => hS b (f2.T b hb)) (hfree.left f2.next) fun V1 a1 w1 hst hok1 => ?_
        refine dops_goes hE os (k + 1) hos' u u' st1 st' x h V1 (plus S st.m st1.m) w1 a1 Q c₀ cs hok1 (hm.mono (hst.le (hfree.left f2.next))) hst.sat (f1.wf hwf) (fun b hb => .inl (hS b hb)) (hfree.right f1.next hst.keeps) fun V2 a2 w2 uc hst2 hok2 hm2 => ?_
        exact hQ V2 a2 w2 uc (Step.then f1 f2 hst hst2) hok2 hm2
      · rename_i y st1 hne h1
        cases h
        refine conv (K := fun a w => wpOpsS P ops Q (List.range' (k + 1) os.length) a (c₀ :: cs) w) (Q' := fun e a w => Q e a (c₀ :: cs) w) (fun _ _ z => z) (fun _ _ _ z => z) ?_
        rcases step_exit h1 with rfl | ⟨z, rfl⟩
        · exact absurd rfl (hne)
        · exact step_goes hE h1 hok hsat hwf hS hfree fun V1 a1 w1 hst hok1 v hv => hQ V1 a1 w1 c₀.mode hst hok1 (hm.mono (hst.le hfree)) v hv
      · cases h
end
section
variable {P : Program} {E : Env}
theorem wpS_mono_goes (hE : EnvOk P E) (hmix : P.follows .mixedOrders = true) {fuel : Nat} {c : Code} {u : AMode} {st st' : St} {x : ExA} (h : codeE P E fuel c st = some (x, st')) : DGoes P E u st x u st' (c.wpS P) := by
  intro V S w a Q c₀ cs hok hm hsat hwf hS hfree hQ
  refine wpS_of_wp (code_goes hE hmix c st st' x h V S w a _ hok hsat hwf hS hfree fun V1 a1 w1 hst hok1 => ?_)
  exact hQ V1 a1 w1 c₀.mode hst hok1 (hm.mono (hst.le hfree))
theorem PostS.then {x : ExA} {V : Vl} {Q : Exit → Act → List Frame → World → Prop} {K : Act → List Frame → World → Prop} {a : Act} {cs : List Frame} {w : World} (hx : x ≠ .norm) (h : PostS x V Q a cs w) : PostS x V (Exit.thenS K Q) a cs w := by
  cases x with
  | norm => exact absurd rfl hx
  | exit id => exact h
  | ret => exact h
  | pan y => exact h
theorem dcode_goes (hE : EnvOk P E) (hmix : P.follows .mixedOrders = true) {fuel : Nat} : ∀ (c : Code) (u u' : AMode) (st st' : St) (x : ExA), dcodeE P E fuel c u st = some (x, u', st') → DGoes P E u st x u' st' (c.wpS P) := by
  have other : ∀ (c : Code) (u u' : AMode) (st st' : St) (x : ExA), (match codeE P E fuel c st with | some (x, st1) => some (x, u, st1) | none => none) = some (x, u', st') → DGoes P E u st x u' st' (c.wpS P) := fun c u u' st st' x h => by
    split at h
    · rename_i h1; cases h; exact wpS_mono_goes hE hmix h1
    · cases h
  intro c
  induction c with
  | seq c d ihc ihd =>
    intro u u' st st' x h V S w a Q c₀ cs hok hm hsat hwf hS hfree hQ
    unfold dcodeE at h
    split at h
    · rename_i u1 st1 h1
      have f1 := dcode_fact hE c u u1 st st1 _ h1
      have f2 := dcode_fact hE d u1 u' st1 st' x h
      refine wpS_seq (ihc u u1 st st1 _ h1 V S w a _ c₀ cs hok hm hsat hwf (fun b hb => hS b (f2.T b hb)) (hfree.left f2.next) fun V1 a1 w1 uc hst hok1 hm1 => ?_)
      refine ihd u1 u' st1 st' x h V1 (plus S st.m st1.m) w1 a1 Q { c₀ with mode := uc } cs hok1 hm1 hst.sat (f1.wf hwf) (fun b hb => .inl (hS b hb)) (hfree.right f1.next hst.keeps) fun V2 a2 w2 uc2 hst2 hok2 hm2 => ?_
      exact hQ V2 a2 w2 uc2 (Step.then f1 f2 hst hst2) hok2 hm2
    · rename_i hne
      refine wpS_seq (ihc u u' st st' x h V S w a _ c₀ cs hok hm hsat hwf hS hfree fun V1 a1 w1 uc hst hok1 hm1 => ?_)
      exact PostS.then (fun e => by subst e; exact hne _ _ h) (hQ V1 a1 w1 uc hst hok1 hm1)
  | cond c y z ihy ihz =>
    intro u u' st st' x h V S w a Q c₀ cs hok hm hsat hwf hS hfree hQ
    unfold dcodeE at h
    split at h
    · rename_i t hc
      have hev := evO_is hok.gv hok.tmps c
      rw [hc] at hev
      split at h
      · rename_i ht
        subst ht
        exact wpS_cond (t := true) hev (ihy u u' st st' x h V S w a Q c₀ cs hok hm hsat hwf hS hfree hQ)
      · rename_i ht
        obtain rfl : t = false := by simpa using ht
        exact wpS_cond (t := false) hev (ihz u u' st st' x h V S w a Q c₀ cs hok hm hsat hwf hS hfree hQ)
    · cases h
  | region id ops draw =>
    intro u u' st st' x h
    cases draw with
    | false =>
      intro V S w a Q c₀ cs hok hm hsat hwf hS hfree hQ
      have := dops_goes hE ops.toList 0 (fun j => by rw [Nat.zero_add, Array.getElem?_toList]) u u' st st' x h V S w a Q c₀ cs hok hm hsat hwf hS hfree hQ
      rw [Array.length_toList, ← List.range_eq_range'] at this
      exact wpS_region this
    | true => exact other (.region id ops true) u u' st st' x h
  | skip => intro u u' st st' x h; exact other .skip u u' st st' x h
  | block i c ih => intro u u' st st' x h; exact other (.block i c) u u' st st' x h
  | loop c ih => intro u u' st st' x h; exact other (.loop c) u u' st st' x h
  | rangeFunc f p a b iha ihb => intro u u' st st' x h; exact other (.rangeFunc f p a b) u u' st st' x h
  | exit i => intro u u' st st' x h; exact other (.exit i) u u' st st' x h
  | scope c ih => intro u u' st st' x h; exact other (.scope c) u u' st st' x h
  | label l => intro u u' st st' x h; exact other (.label l) u u' st st' x h
  | goto l => intro u u' st st' x h; exact other (.goto l) u u' st st' x h
  | ret => intro u u' st st' x h; exact other .ret u u' st st' x h
  | refuse y => intro u u' st st' x h; exact other (.refuse y) u u' st st' x h
/-- a function that is entered -/
structure FnI where
  code : Code
  ntmps : Nat
  results : List ResultVar
structure FnIs (P : Program) (f : FuncId) (i : FnI) : Prop where
  is : ∃ fn, P.funcs[f]? = some fn ∧ fn.body = some i.code ∧ fn.ntmps = i.ntmps ∧ fn.results.toList = i.results ∧ (fn.name == "runtime.NumGoroutine") = false
theorem FnIs.enter {f : FuncId} {i : FnI} (h : FnIs P f i) (vs : Array Value) (w : World) : (callFunc f vs).run P w = .ok (.enter f vs) w := by
  obtain ⟨fn, h1, h2, _, _, h5⟩ := h.is
  unfold callFunc
  rw [Sem.run_bind]
  show (Sem.run P _ w) = _
  simp only [h1, h5, Bool.false_eq_true, if_false, h2, Option.isNone_some]
  rfl
def initT : Nat → List AV → Tr AV → Tr AV
  | _, [], T => T
  | k, x :: l, T => initT (k + 1) l (T.set k (some x))
theorem init_get : ∀ (l : List AV) (k : Nat) (T : Tr AV) (t : Nat), (initT k l T).get t = if k ≤ t ∧ t < k + l.length then l[t - k]? else T.get t
  | [], k, T, t => by
    unfold initT
    rw [if_neg (by simp only [List.length_nil]; omega)]
  | x :: l, k, T, t => by
    unfold initT
    rw [init_get l (k + 1) _ t, Tr.get_set]
    by_cases h1 : t = k
    · subst h1
      rw [if_neg (by omega), if_pos rfl, if_pos (by simp)]
      simp
    · by_cases h2 : k + 1 ≤ t ∧ t < k + 1 + l.length
      · rw [if_pos h2, if_pos (by simp; omega)]
        rw [show t - k = (t - (k + 1)) + 1 by omega, List.getElem?_cons_succ]
      · rw [if_neg h2, if_neg h1, if_neg (by simp; omega)]
def startE (i : FnI) (args : List AV) (m : Mem) : St := ⟨initT 0 args .leaf, max args.length i.ntmps, [], m⟩
theorem start_ok {gs : Nat → Bool} {V : Vl} {i : FnI} {args : List AV} {vs : List Value} {m : Mem} (hg : GV gs V) (ha : AV.are V args vs) : StOk gs V (startE i args m).T (startE i args m).n (startE i args m).D { tmps := vs.toArray ++ Array.replicate (i.ntmps - vs.toArray.size) undef, defers := [] } := by
  have hlen := AV.are_length ha
  refine ⟨hg, ⟨?_, fun t => ?_⟩, rfl⟩
  · simp only [startE, Array.size_append, List.size_toArray, Array.size_replicate]
    omega
  · unfold tmpE startE
    simp only [init_get]
    by_cases h : 0 ≤ t ∧ t < 0 + args.length
    · rw [if_pos h, Nat.sub_zero, List.getElem?_eq_getElem (by omega)]
      obtain ⟨v, hv, hx⟩ := AV.are_get ha t _ (List.getElem?_eq_getElem (show t < args.length by omega))
      rw [Array.getD_eq_getD_getElem?, Array.getElem?_append_left (by simp; omega)]
      simp only [List.getElem?_toArray, hv, Option.getD_some]
      exact hx
    · rw [if_neg h]
      exact trivial
def settleE : AMode → AMode
  | .pan _ true => .ret
  | u => u
theorem settle_is {V : Vl} : ∀ {u : AMode} {c : FrameMode}, ModeIs V u c → ModeIs V (settleE u) (settle c)
  | .ret, _, h => by obtain rfl := h; rfl
  | .pan x r, _, h => by
    obtain ⟨v, hv, rfl⟩ := h
    cases r with
    | false => exact ⟨v, hv, rfl⟩
    | true => rfl
/-- a deferred call -/
def dcallE (P : Program) (E : Env) (fuel : Nat) (tab : FuncId → Option FnI) (f : FuncId) (args : List AV) (u : AMode) (m : Mem) : Option (AMode × Mem) :=
  match tab f with
  | some i =>
    match i.results with
    | [] =>
      match dcodeE P E fuel i.code u (startE i args m) with
      | some (.norm, u', st) => match st.D with | [] => some (u', st.m) | _ => none
      | some (.ret, u', st) => match st.D with | [] => some (u', st.m) | _ => none
      | _ => none
    | _ => none
  | none => none
theorem dcall_fact (hE : EnvOk P E) {fuel : Nat} {tab : FuncId → Option FnI} {f : FuncId} {args : List AV} {u u' : AMode} {m m' : Mem} (h : dcallE P E fuel tab f args u m = some (u', m')) : Fact m m' := by
  unfold dcallE at h
  repeat' (split at h)
  all_goals first
    | (cases h; done)
    | (rename_i h1 _ _; cases h; exact dcode_fact hE _ _ _ _ _ _ h1)
theorem dcall_ok (hE : EnvOk P E) (hmix : P.follows .mixedOrders = true) {fuel : Nat} {tab : FuncId → Option FnI} (ht : ∀ f i, tab f = some i → FnIs P f i) {f : FuncId} {args : List AV} {u u' : AMode} {m m' : Mem} (h : dcallE P E fuel tab f args u m = some (u', m')) {V : Vl} {S : Nat → Prop} {w : World} {vs : List Value} {uc : FrameMode}
    (hg : GV E.gs V) (ha : AV.are V args vs) (hm : ModeIs V u uc) (hsat : Sat V S m w) (hwf : m.wf) (hS : ∀ b, bit m'.T b → S b) (hfree : Free V m m') :
    CallsD P f vs.toArray uc w fun e uc' w' => ∃ V', Step S V m w V' m' w' ∧ ModeIs V' u' uc' ∧ ∃ v, e = .returned v := by
  unfold dcallE at h
  split at h
  case h_2 => cases h
  rename_i i hi
  obtain ⟨fn, h1, h2, h3, h4, _⟩ := (ht f i hi).is
  split at h
  case h_2 => cases h
  rename_i hres
  rw [hres] at h4
  have hr0 : ∀ (tmps : Array Value) (w : World), (results fn tmps).run P w = .ok (.tuple #[]) w := fun tmps w => by
    unfold results
    rw [Array.mapM_eq_mapM_toList, h4]
    simp
  have key : ∀ (x : ExA) (st : St), dcodeE P E fuel i.code u (startE i args m) = some (x, u', st) → st.D = [] → st.m = m' → (x = .norm ∨ x = .ret) → CallsD P f vs.toArray uc w fun e uc' w' => ∃ V', Step S V m w V' m' w' ∧ ModeIs V' u' uc' ∧ ∃ v, e = .returned v := fun x st hc hD hme hx => by
    refine callsD_of_wpS h1 h2 fun c₀ cs hu => ?_
    rw [h3]
    refine dcode_goes hE hmix i.code u u' _ st x hc V S w _ _ c₀ cs (start_ok hg ha) (by rw [hu]; exact hm) hsat hwf (fun b hb => hS b (by rw [← hme]; exact hb)) (by rw [hme]; exact hfree) fun V' a' w' uc' hst hok hm' => ?_
    have hd : a'.defers = [] := by have := hok.dfr; rw [hD] at this; exact this
    have hst' : Step S V m w V' m' w' := by rw [← hme]; exact hst
    rcases hx with rfl | rfl
    · exact ⟨hd, uc', rfl, .tuple #[], hr0 _ _, V', hst', hm', _, rfl⟩
    · exact ⟨hd, uc', rfl, .tuple #[], hr0 _ _, V', hst', hm', _, rfl⟩
  split at h
  · rename_i u1 st hc
    split at h
    · rename_i hD; cases h; exact key _ st hc hD rfl (.inl rfl)
    · cases h
  · rename_i u1 st hc
    split at h
    · rename_i hD; cases h; exact key _ st hc hD rfl (.inr rfl)
    · cases h
  · cases h
end
section
variable {P : Program} {E : Env}
/-- the deferred calls of a frame, and its end -/
def leaveE (P : Program) (E : Env) (fuel : Nat) (tab : FuncId → Option FnI) (rs : List ResultVar) (T : Tr AV) : List (FuncId × List AV × List AV) → AMode → Mem → Option (EndA × Mem)
  | [], .ret, m => match resE P T rs m with | some (l, m1) => some (.ret (oneOf l), m1) | none => none
  | [], .pan x false, m => some (.pan x, m)
  | [], .pan _ true, _ => none
  | (f, caps, args) :: ds, u, m => match dcallE P E fuel tab f (args ++ caps) u m with
    | some (u1, m1) => leaveE P E fuel tab rs T ds (settleE u1) m1
    | none => none
theorem leave_fact (hE : EnvOk P E) {fuel : Nat} {tab : FuncId → Option FnI} {rs : List ResultVar} {T : Tr AV} : ∀ (ds : List (FuncId × List AV × List AV)) (u : AMode) (m m' : Mem) (r : EndA), leaveE P E fuel tab rs T ds u m = some (r, m') → Fact m m'
  | [], .ret, m, m', r, h => by
    unfold leaveE at h
    split at h
    · rename_i hr; cases h; exact res_fact hr
    · cases h
  | [], .pan x false, m, m', r, h => by cases h; exact Fact.refl _
  | [], .pan x true, m, m', r, h => by cases h
  | (f, caps, args) :: ds, u, m, m', r, h => by
    unfold leaveE at h
    split at h
    · rename_i hd; exact (dcall_fact hE hd).trans (leave_fact hE ds _ _ _ _ h)
    · cases h
theorem leave_ok (hE : EnvOk P E) (hmix : P.follows .mixedOrders = true) {fuel : Nat} {tab : FuncId → Option FnI} (ht : ∀ f i, tab f = some i → FnIs P f i) {rs : List ResultVar} {T : Tr AV} {n : Nat} {tmps : Array Value} {fn : Func} (hrs : fn.results.toList = rs) :
    ∀ (ds : List (FuncId × List AV × List AV)) (dc : List Deferred) (u : AMode) (uc : FrameMode) (m m' : Mem) (r : EndA) (V : Vl) (S : Nat → Prop) (w : World) (R : Ending → World → Prop), leaveE P E fuel tab rs T ds u m = some (r, m') → GV E.gs V → TmpsOk V T n tmps → dfrIs V ds dc → ModeIs V u uc → Sat V S m w → m.wf → (∀ b, bit m'.T b → S b) → Free V m m' →
      (∀ V' w' e, Step S V m w V' m' w' → EndIs V' r e → R e w') → Leaves P fn tmps R dc uc w
  | [], dc, .ret, uc, m, m', r, V, S, w, R, h, hg, htm, hd, hm, hsat, hwf, hS, hf, hR => by
    obtain rfl : dc = [] := hd
    obtain rfl : uc = .returning := hm
    unfold leaveE at h
    split at h
    · rename_i l m1 hr
      cases h
      obtain ⟨⟨v, h1, h2⟩, h3⟩ := results_ran (P := P) hrs htm hsat hS hr
      exact ⟨v, h1, hR V w _ h3 ⟨v, rfl, h2⟩⟩
    · cases h
  | [], dc, .pan x false, uc, m, m', r, V, S, w, R, h, hg, htm, hd, hm, hsat, hwf, hS, hf, hR => by
    obtain rfl : dc = [] := hd
    obtain ⟨v, hv, rfl⟩ := hm
    cases h
    exact hR V w _ (Step.refl hsat) ⟨v, rfl, hv⟩
  | [], dc, .pan x true, uc, m, m', r, V, S, w, R, h, hg, htm, hd, hm, hsat, hwf, hS, hf, hR => by cases h
  | (f, caps, args) :: ds, dc, u, uc, m, m', r, V, S, w, R, h, hg, htm, hd, hm, hsat, hwf, hS, hf, hR => by
    obtain ⟨cs, vs, ds', rfl, h1, h2, h3⟩ := hd
    unfold leaveE at h
    split at h
    case h_2 => cases h
    rename_i u1 m1 hdc
    have f1 := dcall_fact hE hdc
    have f2 := leave_fact hE ds _ _ _ _ h
    have hcall := dcall_ok hE hmix ht hdc hg (AV.are_append h2 h1) hm hsat hwf (fun b hb => hS b (f2.T b hb)) (hf.left f2.next)
    have hu : uc ≠ .run := by
      cases u with
      | ret => rw [show uc = .returning from hm]; simp
      | pan x b => obtain ⟨v, _, rfl⟩ := hm; simp
    have hi : ∃ i, tab f = some i := by
      unfold dcallE at hdc
      split at hdc
      · exact ⟨_, by assumption⟩
      · cases hdc
    obtain ⟨i, hi⟩ := hi
    refine leaves_cons (f := f) (args := vs.toArray ++ cs.toArray) hu ?_ ?_
    · show (callFunc f (vs.toArray ++ cs.toArray)).run P w = _
      exact (ht f i hi).enter _ w
    · rw [show vs.toArray ++ cs.toArray = (vs ++ cs).toArray by simp]
      refine CallsD.mono hcall fun e uc' w' hen => ?_
      obtain ⟨V1, hst, hm1, v, rfl⟩ := hen
      have hle := hst.le (hf.left f2.next)
      refine leave_ok hE hmix ht hrs ds ds' _ _ m1 m' r V1 (plus S m m1) w' R h (hg.mono hle) (htm.mono hle) (h3.mono hle) (settle_is hm1) hst.sat (f1.wf hwf) (fun b hb => .inl (hS b hb)) (hf.right f1.next hst.keeps) fun V2 w2 e hst2 hen => ?_
      exact hR V2 w2 e (Step.then f1 f2 hst hst2) hen
/-- what a run is told of beforehand: the functions' code, the variables that it knows, laws of calls -/
structure Book (P : Program) where
  tab : FuncId → Option FnI
  gs : Nat → Bool
  orc : FuncId → List AV → Mem → Option (EndA × Mem)
  is : ∀ f i, tab f = some i → FnIs P f i
  fact : ∀ f args m r m', orc f args m = some (r, m') → Fact m m'
  law : ∀ f args m r m', orc f args m = some (r, m') → ∀ (V : Vl) (S : Nat → Prop) (w : World) (vs : List Value), GV gs V → AV.are V args vs → m.wf → Sat V S m w → (∀ b, bit m'.T b → S b) → Free V m m' →
    Calls P f vs.toArray w fun e w' => ∃ V', Step S V m w V' m' w' ∧ EndIs V' r e
def callE (P : Program) (B : Book P) (fuel : Nat) : Nat → FuncId → List AV → Mem → Option (EndA × Mem)
  | 0, _, _, _ => none
  | k + 1, f, args, m =>
    match B.orc f args m with
    | some r => some r
    | none =>
      match B.tab f with
      | none => none
      | some i =>
        match codeE P ⟨fun g => (B.tab g).isSome, B.gs, callE P B fuel k⟩ fuel i.code (startE i args m) with
        | some (.norm, st) => leaveE P ⟨fun g => (B.tab g).isSome, B.gs, callE P B fuel k⟩ fuel B.tab i.results st.T st.D .ret st.m
        | some (.ret, st) => leaveE P ⟨fun g => (B.tab g).isSome, B.gs, callE P B fuel k⟩ fuel B.tab i.results st.T st.D .ret st.m
        | some (.pan x, st) => leaveE P ⟨fun g => (B.tab g).isSome, B.gs, callE P B fuel k⟩ fuel B.tab i.results st.T st.D (.pan x false) st.m
        | _ => none
def envOf (P : Program) (B : Book P) (fuel k : Nat) : Env := ⟨fun g => (B.tab g).isSome, B.gs, callE P B fuel k⟩
theorem call_env (B : Book P) (hmix : P.follows .mixedOrders = true) (fuel : Nat) : ∀ k, EnvOk P (envOf P B fuel k)
  | 0 => ⟨fun f hf vs w => by
      obtain ⟨i, hi⟩ := Option.isSome_iff_exists.1 hf
      exact (B.is f i hi).enter vs w, fun f args m r m' h => (by cases h), fun f args m r m' h => (by cases h)⟩
  | k + 1 => by
    have ih := call_env B hmix fuel k
    refine ⟨fun f hf vs w => ?_, fun f args m r m' h => ?_, fun f args m r m' h V S w vs hg ha hwf hsat hS hf => ?_⟩
    · obtain ⟨i, hi⟩ := Option.isSome_iff_exists.1 hf
      exact (B.is f i hi).enter vs w
    · change callE P B fuel (k + 1) f args m = some (r, m') at h
      unfold callE at h
      split at h
      · rename_i r' ho; cases h; exact B.fact _ _ _ _ _ ho
      · split at h
        · cases h
        · rename_i i hi
          split at h
          · rename_i st hc; exact (code_fact ih _ _ _ _ hc).trans (leave_fact ih _ _ _ _ _ h)
          · rename_i st hc; exact (code_fact ih _ _ _ _ hc).trans (leave_fact ih _ _ _ _ _ h)
          · rename_i x st hc; exact (code_fact ih _ _ _ _ hc).trans (leave_fact ih _ _ _ _ _ h)
          · cases h
    · change callE P B fuel (k + 1) f args m = some (r, m') at h
      unfold callE at h
      split at h
      · rename_i r' ho
        cases h
        exact B.law _ _ _ _ _ ho V S w vs hg ha hwf hsat hS hf
      · split at h
        · cases h
        · rename_i i hi
          obtain ⟨fn, h1, h2, h3, h4, _⟩ := (B.is f i hi).is
          have key : ∀ (x : ExA) (u : AMode) (st : St), codeE P (envOf P B fuel k) fuel i.code (startE i args m) = some (x, st) → leaveE P (envOf P B fuel k) fuel B.tab i.results st.T st.D u st.m = some (r, m') →
              (∀ (V' : Vl) (a : Act) (w' : World), (∀ uc, ModeIs V' u uc → Leaves P fn a.tmps (fun e w' => ∃ V', Step S V m w V' m' w' ∧ EndIs V' r e) a.defers uc w') → Post x V' (bodyPostD P fn (fun e w' => ∃ V', Step S V m w V' m' w' ∧ EndIs V' r e)) a w') →
              Calls P f vs.toArray w fun e w' => ∃ V', Step S V m w V' m' w' ∧ EndIs V' r e := fun x u st hc hl hpost => by
            have f1 := code_fact ih _ _ _ _ hc
            have f2 := leave_fact ih _ _ _ _ _ hl
            refine calls_of_wp_defers h1 h2 ?_
            rw [h3]
            refine code_goes ih hmix i.code _ st x hc V S w _ _ (start_ok hg ha) hsat hwf (fun b hb => hS b (f2.T b hb)) (hf.left f2.next) fun V1 a1 w1 hst hok => ?_
            refine hpost V1 a1 w1 fun uc hm => ?_
            refine leave_ok ih hmix B.is h4 st.D a1.defers u uc st.m m' r V1 (plus S m st.m) w1 _ hl hok.gv hok.tmps hok.dfr hm hst.sat (f1.wf hwf) (fun b hb => .inl (hS b hb)) (hf.right f1.next hst.keeps) fun V2 w2 e hst2 hen => ?_
            exact ⟨V2, Step.then f1 f2 hst hst2, hen⟩
          split at h
          · rename_i st hc
            exact key .norm .ret st hc h fun V' a w' hL => hL .returning rfl
          · rename_i st hc
            exact key .ret .ret st hc h fun V' a w' hL => hL .returning rfl
          · rename_i x st hc
            exact key (.pan x) (.pan x false) st hc h fun V' a w' hL v hv => hL _ ⟨v, hv, rfl⟩
          · cases h
/-- **A CALL'S LAW, OUT OF ITS RUN** -/
theorem call_law (B : Book P) (hmix : P.follows .mixedOrders = true) {fuel k : Nat} {f : FuncId} {args : List AV} {m m' : Mem} {r : EndA} (h : callE P B fuel k f args m = some (r, m')) {V : Vl} {S : Nat → Prop} {w : World} {vs : List Value}
    (hg : GV B.gs V) (ha : AV.are V args vs) (hwf : m.wf) (hsat : Sat V S m w) (hS : ∀ b, bit m'.T b → S b) (hf : Free V m m') : Calls P f vs.toArray w fun e w' => ∃ V', Step S V m w V' m' w' ∧ EndIs V' r e :=
  (call_env B hmix fuel k).call f args m r m' h V S w vs hg ha hwf hsat hS hf
end
section
variable {P : Program} {E : Env}
/-- a list of functions as a book -/
def lk : List (Nat × FnI) → Nat → Option FnI
  | [], _ => none
  | (n, i) :: l, f => if f = n then some i else lk l f
def fnI (fn : Func) : FnI := ⟨fn.body.getD .skip, fn.ntmps, fn.results.toList⟩
theorem fnI_is {f : FuncId} {fn : Func} (h : P.funcs[f]? = some fn) (hb : fn.body.isSome = true) (hn : (fn.name == "runtime.NumGoroutine") = false) : FnIs P f (fnI fn) := by
  obtain ⟨c, hc⟩ := Option.isSome_iff_exists.1 hb
  exact ⟨fn, h, by unfold fnI; rw [hc]; rfl, rfl, rfl, hn⟩
theorem lk_nil : ∀ f i, lk [] f = some i → FnIs P f i := fun f i h => by cases h
theorem lk_cons {n : Nat} {j : FnI} {l : List (Nat × FnI)} (hj : FnIs P n j) (hl : ∀ f i, lk l f = some i → FnIs P f i) : ∀ f i, lk ((n, j) :: l) f = some i → FnIs P f i := fun f i h => by
  unfold lk at h
  split at h
  · rename_i e; subst e; cases h; exact hj
  · exact hl f i h
/-- a book of functions alone -/
def bookOf (l : List (Nat × FnI)) (h : ∀ f i, lk l f = some i → FnIs P f i) : Book P := ⟨lk l, fun _ => false, fun _ _ _ => none, h, fun _ _ _ _ _ h => (by cases h), fun _ _ _ _ _ h => (by cases h)⟩
/-- a call that leaves all that was there -/
theorem Step.below {S : Nat → Prop} {V : Vl} {m : Mem} {w w' : World} (h : Sat V S m w) (hb : RowKit.Below w.heap.size w w') : Step S V m w V m w' where
  keeps := fun _ _ => rfl
  sat := ⟨fun b hb2 k hk => by
    have h1 := h.holds b (hb2.resolve_right (by unfold born; omega)) k hk
    obtain ⟨p, hp, hlt⟩ := Holds.at h1
    exact Holds.heap (fun q hq => by rw [hp] at hq; cases hq; exact hb.block _ hlt) h1, fun b c hb hc => h.apart b c (hb.resolve_right (by unfold born; omega)) (hc.resolve_right (by unfold born; omega))⟩
  fr := ⟨hb.os, hb.tape, hb.output, hb.size, fun k hk _ => hb.block k hk⟩
  fresh := fun b p hb => by unfold born at hb; omega
/-- what copies a string, as a call with a law -/
def cloneOrc (g : FuncId) : FuncId → List AV → Mem → Option (EndA × Mem)
  | f, [.lit (.string s)], m => if f = g ∧ s.size ≤ 281474976710656 then some (.ret (.lit (.string s)), m) else none
  | _, _, _ => none
theorem cloneOrc_some {g f : FuncId} {args : List AV} {m m' : Mem} {r : EndA} (h : cloneOrc g f args m = some (r, m')) : f = g ∧ m' = m ∧ ∃ s : ByteArray, s.size ≤ 281474976710656 ∧ args = [.lit (.string s)] ∧ r = .ret (.lit (.string s)) := by
  unfold cloneOrc at h
  split at h
  · split at h
    · rename_i hc
      cases h
      exact ⟨hc.1, rfl, _, hc.2, rfl, rfl⟩
    · cases h
  · cases h
/-- a book of functions, and of one that copies a string -/
def bookClone (l : List (Nat × FnI)) (h : ∀ f i, lk l f = some i → FnIs P f i) (g : FuncId) (hg : ∀ (s : ByteArray) (w : World), s.size ≤ 281474976710656 → Calls P g #[.string s] w fun e w' => e = .returned (.string s) ∧ RowKit.Below w.heap.size w w') : Book P :=
  ⟨lk l, fun _ => false, cloneOrc g, h, fun f args m r m' ho => by obtain ⟨_, rfl, _⟩ := cloneOrc_some ho; exact Fact.refl _, fun f args m r m' ho V S w vs hgv ha hwf hsat hS hf => by
    obtain ⟨rfl, rfl, s, hs, rfl, rfl⟩ := cloneOrc_some ho
    obtain ⟨v, us, rfl, hv, hus⟩ := ha
    obtain rfl : v = .string s := hv
    obtain rfl : us = [] := hus
    refine (hg s w hs).mono fun e w' he => ?_
    obtain ⟨rfl, hb⟩ := he
    exact ⟨V, Step.below hsat hb, _, rfl, rfl⟩⟩
def noMem : Mem := ⟨.leaf, 0, 0, 0⟩
theorem noMem_get (b : Nat) : noMem.get b = none := rfl
def retOf : Option (EndA × Mem) → Option AV
  | some (.ret x, _) => some x
  | _ => none
/-- **a call that asks nothing of memory, by its run**: what it hands back, and that all that was there stands -/
theorem closed_law (B : Book P) (hB : ∀ g, B.gs g = false) (hmix : P.follows .mixedOrders = true) {fuel k : Nat} {f : FuncId} {args : List AV} {x : AV} (h : retOf (callE P B fuel k f args noMem) = some x) {w : World} {vs : List Value} (ha : ∀ V, AV.are V args vs) :
    Calls P f vs.toArray w fun e w' => ∃ V v, e = .returned v ∧ x.is V v ∧ RowKit.Below w.heap.size w w' := by
  unfold retOf at h
  split at h
  · rename_i y m' hc
    cases h
    have := call_law B hmix hc (V := fun _ => none) (S := fun _ => True) (w := w) (vs := vs) (fun g hg => by rw [hB g] at hg; cases hg) (ha _) (fun b _ => noMem_get b) ⟨fun b _ k hk => (by rw [noMem_get] at hk; cases hk), fun b c _ _ _ k l p q hk => (by rw [noMem_get] at hk; cases hk)⟩ (fun _ _ => trivial) (fun _ _ => rfl)
    refine this.mono fun e w' he => ?_
    obtain ⟨V', hst, v, hv, hx⟩ := he
    exact ⟨V', v, hv, hx, ⟨hst.fr.os, hst.fr.tape, hst.fr.output, hst.fr.size, fun i hi => hst.fr.block i hi (fun b p _ hb => by cases hb)⟩⟩
  · cases h
/-- the same of a known value -/
theorem closed_lit (B : Book P) (hB : ∀ g, B.gs g = false) (hmix : P.follows .mixedOrders = true) {fuel k : Nat} {f : FuncId} {args : List Value} {v : Value} (h : retOf (callE P B fuel k f (args.map .lit) noMem) = some (.lit v)) (w : World) :
    Calls P f args.toArray w fun e w' => e = .returned v ∧ RowKit.Below w.heap.size w w' := by
  refine (closed_law B hB hmix h (w := w) (vs := args) (fun V => are_lits args)).mono fun e w' he => ?_
  obtain ⟨V, u, rfl, hu, hb⟩ := he
  exact ⟨by rw [show u = v from hu], hb⟩
end
section
variable {P : Program}
variable {P : Program}
def memOf : Option (EndA × Mem) → Mem
  | some (_, m) => m
  | none => noMem
theorem ret_some {c : Option (EndA × Mem)} {x : AV} (h : retOf c = some x) : c = some (.ret x, memOf c) := by
  unfold retOf at h
  split at h
  · cases h; rfl
  · cases h
/-- a walk knows what the run's memory says; all of it was laid since w0 -/
structure Stt (w0 : World) (V : Vl) (m : Mem) (w : World) : Prop where
  sat : Sat V (fun _ => True) m w
  wf : m.wf
  free : ∀ b, m.next ≤ b → V b = none
  low : ∀ b p, V b = some p → w0.heap.size ≤ p.1
  top : ∀ b p, V b = some p → p.1 < w.heap.size
  below : RowKit.Below w0.heap.size w0 w
theorem Stt.start (w : World) : Stt w (fun _ => none) noMem w :=
  ⟨⟨fun b _ k hk => (by rw [noMem_get] at hk; cases hk), fun b c _ _ _ k l p q hk => (by rw [noMem_get] at hk; cases hk)⟩, fun b _ => noMem_get b, fun _ _ => rfl, fun _ _ h => (by cases h), fun _ _ h => (by cases h), RowKit.Below.refl _ _⟩
theorem Stt.step {w0 : World} {V V' : Vl} {m m' : Mem} {w w' : World} (h : Stt w0 V m w) (hf : Fact m m') (hs : Step (fun _ => True) V m w V' m' w') : Stt w0 V' m' w' ∧ V.le V' := by
  have hfree : Free V m m' := fun b hb => h.free b hb.1
  refine ⟨⟨⟨fun b _ => hs.sat.holds b (.inl trivial), fun b c _ _ => hs.sat.apart b c (.inl trivial) (.inl trivial)⟩, hf.wf h.wf, fun b hb => ?_, fun b p hp => ?_, fun b p hp => ?_, ?_⟩, hs.le hfree⟩
  · rw [hs.keeps b (fun x => by unfold born at x; omega)]
    exact h.free b (Nat.le_trans hf.next hb)
  · by_cases hn : born m m' b
    · rcases hs.fresh b p hn hp with h1 | ⟨c, q, _, hq, he⟩
      · exact Nat.le_trans h.below.size h1.1
      · rw [← he]; exact h.low c q hq
    · rw [hs.keeps b hn] at hp
      exact h.low b p hp
  · by_cases hn : born m m' b
    · rcases hs.fresh b p hn hp with h1 | ⟨c, q, _, hq, he⟩
      · exact h1.2
      · rw [← he]; exact Nat.lt_of_lt_of_le (h.top c q hq) hs.fr.size
    · rw [hs.keeps b hn] at hp
      exact Nat.lt_of_lt_of_le (h.top b p hp) hs.fr.size
  · refine h.below.trans ⟨hs.fr.os, hs.fr.tape, hs.fr.output, hs.fr.size, fun k hk => ?_⟩
    exact hs.fr.block k (Nat.lt_of_lt_of_le hk h.below.size) fun b p _ hp => by
      have := h.low b p hp
      omega
theorem Stt.keep {w0 : World} {V : Vl} {m : Mem} {w w' : World} (h : Stt w0 V m w) (hb : RowKit.Below w.heap.size w w') : Stt w0 V m w' := (h.step (Fact.refl m) (Step.below h.sat hb)).1
/-- what the run doesn't know stands -/
structure Rest (V : Vl) (w w' : World) : Prop where
  size : w.heap.size ≤ w'.heap.size
  block : ∀ k, k < w.heap.size → (∀ b p, V b = some p → p.1 ≠ k) → w'.heap[k]? = w.heap[k]?
theorem Stt.came {w0 : World} {V V' : Vl} {m m' : Mem} {w w' : World} (h : Stt w0 V m w) (hs : Step (fun _ => True) V m w V' m' w') (b : Nat) (p : Nat × Nat) (hp : V' b = some p) : (∃ c q, V c = some q ∧ q.1 = p.1) ∨ w.heap.size ≤ p.1 := by
  by_cases hn : born m m' b
  · rcases hs.fresh b p hn hp with h1 | ⟨c, q, _, hq, he⟩
    · exact .inr h1.1
    · exact .inl ⟨c, q, hq, he⟩
  · rw [hs.keeps b hn] at hp
    exact .inl ⟨b, p, hp, rfl⟩
/-- **a call out of its run, in the middle of a walk** -/
theorem Stt.run (B : Book P) (hB : ∀ g, B.gs g = false) (hmix : P.follows .mixedOrders = true) {fuel k : Nat} {f : FuncId} {args : List AV} {m : Mem} {x : AV} (h : retOf (callE P B fuel k f args m) = some x) {w0 w : World} {V : Vl} {vs : List Value} (hs : Stt w0 V m w) (ha : AV.are V args vs) :
    Calls P f vs.toArray w fun e w' => ∃ V' v, V.le V' ∧ Stt w0 V' (memOf (callE P B fuel k f args m)) w' ∧ e = .returned v ∧ x.is V' v ∧ Rest V w w' ∧ (∀ b p, V' b = some p → (∃ c q, V c = some q ∧ q.1 = p.1) ∨ w.heap.size ≤ p.1) := by
  have hc := ret_some h
  have hf : Fact m (memOf (callE P B fuel k f args m)) := (call_env B hmix fuel k).fact f args m _ _ hc
  refine (call_law B hmix hc (fun g hg => by rw [hB g] at hg; cases hg) ha hs.wf hs.sat (fun _ _ => trivial) (fun b hb => hs.free b hb.1)).mono fun e w' he => ?_
  obtain ⟨V', hst, v, hv, hx⟩ := he
  obtain ⟨h1, h2⟩ := hs.step hf hst
  exact ⟨V', v, h2, h1, hv, hx, ⟨hst.fr.size, fun k hk hn => hst.fr.block k hk fun b p _ hp => hn b p hp⟩, fun b p hp => hs.came hst b p hp⟩
/-- a block that the walk itself lays -/
theorem Stt.lay {w0 : World} {V : Vl} {m : Mem} {w : World} (h : Stt w0 V m w) (t : TypeId) (l : List AV) (vs : List Value) (hl : AV.are V l vs) :
    ∃ V', V.le V' ∧ V' m.next = some (w.heap.size, vs.length) ∧ Stt w0 V' (m.new (.cells t l true)) (w.alloc (.cells vs.toArray t)) := by
  have hs := Step.row h.sat (h.free m.next (Nat.le_refl _)) t l vs [] true hl (fun _ => rfl)
  rw [List.append_nil] at hs
  obtain ⟨h1, h2⟩ := h.step (Fact.new m _) hs
  exact ⟨_, h2, if_pos rfl, h1⟩
/-- a cell of a known block -/
theorem Stt.cell {w0 : World} {V : Vl} {m : Mem} {w : World} (h : Stt w0 V m w) {b : Nat} {t : TypeId} {l : List AV} {ex : Bool} (hb : m.get b = some (.cells t l ex)) {i : Nat} {x : AV} (hi : l[i]? = some x) :
    ∃ p v, V b = some p ∧ p.1 < w.heap.size ∧ w.cell? ⟨p.1, i, none⟩ = some v ∧ x.is V v := by
  obtain ⟨p, C, fr, h1, h2, h3, h4, h5, _⟩ := h.sat.holds b trivial _ hb
  have hil := (List.getElem?_eq_some_iff.1 hi).1
  obtain ⟨v, hv, hx⟩ := AV.are_get h5 i x hi
  refine ⟨p, v, h1, (Array.getElem?_eq_some_iff.1 h2).1, ?_, hx⟩
  rw [cell_of_row w p.1 i C t fr h2, ← Array.getElem?_toList]
  rw [List.getElem?_take, if_pos hil] at hv
  exact hv
theorem setCell_heap {W : World} {g : Nat} {cur : Array Value} {t : TypeId} {fr : Nat × Nat} (h : W.heap[g]? = some (.cells cur t fr)) (k : Nat) (v : Value) : (W.setCell ⟨g, k, none⟩ v).heap[g]? = some (.cells (cur.setIfInBounds k v) t fr) := by
  obtain ⟨hl, he⟩ := Array.getElem?_eq_some_iff.1 h
  unfold World.setCell
  simp [hl, Array.getElem_modify_self, he]
theorem AV.are_set {V : Vl} : ∀ {xs : List AV} {vs : List Value} (i : Nat) {x : AV} {v : Value}, AV.are V xs vs → x.is V v → AV.are V (xs.set i x) (vs.set i v)
  | [], _, i, _, _, h, _ => by subst h; exact rfl
  | y :: ys, _, 0, x, v, h, hx => by obtain ⟨u, us, rfl, h1, h2⟩ := h; exact ⟨v, us, rfl, hx, h2⟩
  | y :: ys, _, i + 1, x, v, h, hx => by obtain ⟨u, us, rfl, h1, h2⟩ := h; exact ⟨u, us.set i v, rfl, h1, AV.are_set i h2 hx⟩
/-- a cell of a known block is written -/
theorem Stt.store {w0 : World} {V : Vl} {m : Mem} {w : World} (h : Stt w0 V m w) {b : Nat} {t : TypeId} {l : List AV} (hb : m.get b = some (.cells t l true)) {i : Nat} (hi : i < l.length) {x : AV} {v : Value} (hx : x.is V v) {p : Nat × Nat} (hp : V b = some p) :
    Stt w0 V (m.write b (some (.cells t (l.set i x) true))) (w.setCells p.1 i [v]) ∧ w.there p.1 i 1 := by
  obtain ⟨q, C, fr, h1, h2, h3, h4, h5, h6, h7⟩ := h.sat.holds b trivial _ hb
  rw [hp] at h1
  cases h1
  have hpl : p.2 = l.length := h6 rfl
  have e : w.setCells p.1 i [v] = w.setCell ⟨p.1, i, none⟩ v := rfl
  rw [e]
  have hst := Step.write (w' := w.setCell ⟨p.1, i, none⟩ v) h.sat b trivial _ (.cells t (l.set i x) true) hb p hp rfl rfl rfl (by simp [World.setCell]) (fun k hk => RowKit.Below.heap_setCell w ⟨p.1, i, none⟩ v k hk)
    ⟨p, C.setIfInBounds i v, fr, hp, setCell_heap h2 i v, by rw [Array.size_setIfInBounds]; exact h3, by rw [List.length_set]; exact h4, by
      rw [List.length_set, Array.toList_setIfInBounds]
      have := AV.are_set i h5 hx
      rw [List.take_of_length_le (by rw [Array.length_toList]; omega)] at this
      rw [List.take_of_length_le (by rw [List.length_set, Array.length_toList]; omega)]
      exact this, fun _ => by rw [List.length_set]; exact hpl, h7⟩
  refine ⟨(h.step (Fact.write m b _ (by rw [hb]; rfl)) hst).1, fun j hj => ?_⟩
  have hj0 : j = 0 := by omega
  subst hj0
  rw [Nat.add_zero]
  refine ⟨?_, ?_⟩
  · rw [cell_of_row w p.1 i C t fr h2]
    rw [Array.getElem?_eq_getElem (by omega)]
    rfl
  · unfold World.frozen?
    simp only [h2]
    rcases h7 with h7 | h7
    · simp [h7]
      try omega
    · simp
      try omega
end
end Go.Proofs.Ytmomdfmilelilaa.Ev
