/-
  A run of a closed call: one operation after another, and a region that draws its order: in whatever order its operations come up it comes to what it comes to in the text's.
-/
import Derived.Test.YtmomdfmilelilaaEvb
namespace Go.Proofs.Ytmomdfmilelilaa.Ev
set_option linter.unusedVariables false
section
variable {P : Program}
/-- how a call ends, how code is left -/
inductive EndA where
  | ret (x : AV)
  | pan (x : AV)
inductive ExA where
  | norm
  | exit (id : Nat)
  | ret
  | pan (x : AV)
structure St where
  T : Tr AV
  n : Nat
  D : List (FuncId × List AV × List AV)
  m : Mem
/-- what a run goes by: the program's functions that it enters, the variables that it knows, calls -/
structure Env where
  has : FuncId → Bool
  gs : Nat → Bool
  call : FuncId → List AV → Mem → Option (EndA × Mem)
def undefA : AV := .lit (.tuple #[])
def tmpE (T : Tr AV) (t : Nat) : AV := match T.get t with | some x => x | none => .any
def evO (gs : Nat → Bool) (T : Tr AV) : Operand → AV
  | .tmp t => tmpE T t
  | .const v => .lit v
  | .global g => if gs g then .ptr g 0 else .lit (.pointer (some ⟨g, 0, none⟩))
  | .func f => .lit (.func (.func f) #[] #[])
def GV (gs : Nat → Bool) (V : Vl) : Prop := ∀ g, gs g = true → ∃ n, V g = some (g, n)
theorem GV.mono {gs : Nat → Bool} {V V' : Vl} (h : GV gs V) (hle : V.le V') : GV gs V' := fun g hg => let ⟨n, hn⟩ := h g hg; ⟨n, hle _ _ hn⟩
def TmpsOk (V : Vl) (T : Tr AV) (n : Nat) (tmps : Array Value) : Prop := tmps.size = n ∧ ∀ t, (tmpE T t).is V (tmps.getD t undef)
theorem TmpsOk.mono {V V' : Vl} {T : Tr AV} {n : Nat} {tmps : Array Value} (h : TmpsOk V T n tmps) (hle : V.le V') : TmpsOk V' T n tmps := ⟨h.1, fun t => (h.2 t).mono hle⟩
theorem evO_is {gs : Nat → Bool} {V : Vl} {T : Tr AV} {n : Nat} {a : Act} (hg : GV gs V) (h : TmpsOk V T n a.tmps) : ∀ x, (evO gs T x).is V (a.eval x)
  | .tmp t => h.2 t
  | .const v => rfl
  | .func f => rfl
  | .global g => by
    show (if gs g then AV.ptr g 0 else .lit (.pointer (some ⟨g, 0, none⟩))).is V (.pointer (some ⟨g, 0, none⟩))
    split
    · rename_i hgg
      obtain ⟨n, hn⟩ := hg g hgg
      exact ⟨(g, n), hn, rfl⟩
    · rfl
theorem TmpsOk.put {V : Vl} {T : Tr AV} {n : Nat} {tmps : Array Value} (h : TmpsOk V T n tmps) {d : Nat} (hd : d < n) {x : AV} {v : Value} (hx : x.is V v) : TmpsOk V (T.set d (some x)) n (tmps.setIfInBounds d v) := by
  refine ⟨by simp [h.1], fun t => ?_⟩
  unfold tmpE
  rw [Tr.get_set]
  by_cases ht : t = d
  · subst ht
    simp only [if_true]
    rw [Array.getD_eq_getD_getElem?, Array.getElem?_setIfInBounds]
    rw [if_pos rfl, if_pos (by rw [h.1]; exact hd)]
    exact hx
  · simp only [if_neg ht]
    rw [Array.getD_eq_getD_getElem?, Array.getElem?_setIfInBounds, if_neg (fun e => ht e.symm), ← Array.getD_eq_getD_getElem?]
    exact h.2 t
def dfrIs (V : Vl) : List (FuncId × List AV × List AV) → List Deferred → Prop
  | [], ds => ds = []
  | (f, caps, args) :: r, ds => ∃ cs vs ds', ds = { target := .fn (.func f) cs.toArray, args := vs.toArray } :: ds' ∧ AV.are V caps cs ∧ AV.are V args vs ∧ dfrIs V r ds'
theorem dfrIs.mono {V V' : Vl} (h : V.le V') : ∀ {l : List (FuncId × List AV × List AV)} {ds : List Deferred}, dfrIs V l ds → dfrIs V' l ds
  | [], _, k => k
  | (f, caps, args) :: r, _, k => by obtain ⟨cs, vs, ds', rfl, h1, h2, h3⟩ := k; exact ⟨cs, vs, ds', rfl, h1.mono h, h2.mono h, dfrIs.mono h h3⟩
structure StOk (gs : Nat → Bool) (V : Vl) (T : Tr AV) (n : Nat) (D : List (FuncId × List AV × List AV)) (a : Act) : Prop where
  gv : GV gs V
  tmps : TmpsOk V T n a.tmps
  dfr : dfrIs V D a.defers
theorem StOk.mono {gs : Nat → Bool} {V V' : Vl} {T : Tr AV} {n : Nat} {D : List (FuncId × List AV × List AV)} {a : Act} (h : StOk gs V T n D a) (hle : V.le V') : StOk gs V' T n D a := ⟨h.gv.mono hle, h.tmps.mono hle, h.dfr.mono hle⟩
/-- is an operation carried out? -/
def wantE (ops : Array Oper) (T : Tr AV) (n : Nat) (o : Oper) : Option Bool :=
  match o.guard with
  | none => some true
  | some (j, want) =>
    match (ops[j]?).bind (·.dst) with
    | some d => if d < n then
        match tmpE T d with
        | .lit (.bool b) => some (b == want)
        | .lit (.tuple _) => some false
        | _ => none
      else none
    | none => none
theorem want_ok {ops : Array Oper} {V : Vl} {T : Tr AV} {n : Nat} {tmps : Array Value} {o : Oper} {b : Bool} (h : TmpsOk V T n tmps) (he : wantE ops T n o = some b) : Region.wanted o (yielded ops tmps) = b := by
  unfold wantE at he
  unfold Region.wanted
  split at he
  · rename_i hg
    cases he
    rw [hg]
  · rename_i j want hg
    split at he
    · rename_i d hd
      split at he
      · rename_i hdn
        have hx := h.2 d
        have hget : tmps[d]? = some (tmps.getD d undef) := by
          rw [Array.getD_eq_getD_getElem?, Array.getElem?_eq_getElem (by rw [h.1]; exact hdn)]
          rfl
        simp only [hg]
        unfold yielded
        rw [hd]
        simp only [Option.bind_some]
        rw [hget]
        split at he
        · rename_i c hc
          cases he
          rw [hc] at hx
          rw [show tmps.getD d undef = .bool c from hx]
          cases c <;> cases want <;> rfl
        · rename_i c hc
          cases he
          rw [hc] at hx
          rw [show tmps.getD d undef = .tuple c from hx]
          cases want <;> rfl
        · cases he
      · cases he
    · cases he
def putE (st : St) (d : Option Nat) (x : AV) : Option (ExA × St) :=
  match d with
  | none => some (.norm, st)
  | some d => if d < st.n then some (.norm, { st with T := st.T.set d (some x) }) else none
theorem putE_ok {gs : Nat → Bool} {V : Vl} {st st' : St} {d : Option Nat} {x : AV} {v : Value} {a : Act} {ex : ExA} (h : StOk gs V st.T st.n st.D a) (hx : x.is V v) (he : putE st d x = some (ex, st')) : ex = .norm ∧ st'.m = st.m ∧ StOk gs V st'.T st'.n st'.D (a.put d v) := by
  unfold putE at he
  split at he
  · cases he
    exact ⟨rfl, rfl, h⟩
  · split at he
    · rename_i d hd
      cases he
      exact ⟨rfl, rfl, ⟨h.gv, h.tmps.put hd hx, h.dfr⟩⟩
    · cases he
/-- an operation that is carried out, whatever follows; the flag: it panics -/
def opR (P : Program) (E : Env) (e : Operand → AV) (o : Oper) (m : Mem) : Option ((AV × Bool) × Mem) :=
  match opE P E.has e o m with
  | some (.val x, m) => some ((x, false), m)
  | some (.skip, m) => some ((undefA, false), m)
  | some (.pan x, m) => some ((x, true), m)
  | some (.call f args, m) =>
    if E.has f = true then
      match E.call f args m with
      | some (.ret x, m) => some ((x, false), m)
      | some (.pan x, m) => some ((x, true), m)
      | none => none
    else none
  | _ => none
/-- one operation -/
def stepE (P : Program) (E : Env) (ops : Array Oper) (st : St) (o : Oper) : Option (ExA × St) :=
  match wantE ops st.T st.n o with
  | some false => putE st o.dst undefA
  | some true =>
    match o.op with
    | .defer c => match dfrO E.has (evO E.gs st.T) c st.m with
      | some (.dfr f caps args, m) => putE { st with D := (f, caps, args) :: st.D, m := m } o.dst undefA
      | _ => none
    | _ => match opR P E (evO E.gs st.T) o st.m with
      | some ((x, false), m) => putE { st with m := m } o.dst x
      | some ((x, true), m) => some (.pan x, { st with m := m })
      | none => none
  | none => none
/-- the end of a call, told -/
def EndIs (V : Vl) : EndA → Ending → Prop
  | .ret x, e => ∃ v, e = .returned v ∧ x.is V v
  | .pan x, e => ∃ v, e = .panicked [{ v, recovered := false }] ∧ x.is V v
/-- what is asked of a run's calls -/
structure EnvOk (P : Program) (E : Env) : Prop where
  has : ∀ f, E.has f = true → ∀ vs w, (callFunc f vs).run P w = .ok (.enter f vs) w
  fact : ∀ f args m r m', E.call f args m = some (r, m') → Fact m m'
  call : ∀ f args m r m', E.call f args m = some (r, m') → ∀ (V : Vl) (S : Nat → Prop) (w : World) (vs : List Value), GV E.gs V → AV.are V args vs → m.wf → Sat V S m w → (∀ b, bit m'.T b → S b) → Free V m m' →
    Calls P f vs.toArray w fun e w' => ∃ V', Step S V m w V' m' w' ∧ EndIs V' r e
theorem putE_mem {st st' : St} {d : Option Nat} {x : AV} {ex : ExA} (he : putE st d x = some (ex, st')) : st'.m = st.m := by
  unfold putE at he
  split at he
  · cases he; rfl
  · split at he
    · cases he; rfl
    · cases he
theorem opR_fact {E : Env} (hE : EnvOk P E) {e : Operand → AV} {o : Oper} {m m' : Mem} {r : AV × Bool} (he : opR P E e o m = some (r, m')) : Fact m m' := by
  unfold opR at he
  split at he
  · rename_i hop; cases he; exact op_fact hop
  · rename_i hop; cases he; exact op_fact hop
  · rename_i hop; cases he; exact op_fact hop
  · rename_i hop
    split at he
    · split at he
      · rename_i hc; cases he; exact (op_fact hop).trans (hE.fact _ _ _ _ _ hc)
      · rename_i hc; cases he; exact (op_fact hop).trans (hE.fact _ _ _ _ _ hc)
      · cases he
    · cases he
  · cases he
theorem step_fact {E : Env} (hE : EnvOk P E) {ops : Array Oper} {st st' : St} {o : Oper} {ex : ExA} (he : stepE P E ops st o = some (ex, st')) : Fact st.m st'.m := by
  unfold stepE at he
  split at he
  · rw [putE_mem he]; exact Fact.refl _
  · split at he
    · split at he
      · rename_i hd; rw [putE_mem he]; exact dfrO_fact hd
      · cases he
    · split at he
      · rename_i hop; rw [putE_mem he]; exact opR_fact hE hop
      · rename_i hop; cases he; exact opR_fact hE hop
      · cases he
  · cases he
end
section
variable {P : Program}
theorem wp_value {o : Oper} {a : Act} {w w' : World} {v : Value} {K : Act → World → Prop} {Q : Exit → Act → World → Prop} (h : (execOp a.eval o).run P w = .ok (.value v) w') (k : K (a.put o.dst v) w') : o.wp P a w K Q := by
  unfold Oper.wp; rw [h]; exact k
theorem wp_skipv {o : Oper} {a : Act} {w w' : World} {K : Act → World → Prop} {Q : Exit → Act → World → Prop} (h : (execOp a.eval o).run P w = .ok .skip w') (k : K (a.put o.dst undef) w') : o.wp P a w K Q := by
  unfold Oper.wp; rw [h]; exact k
theorem wp_pan {o : Oper} {a : Act} {w w' : World} {v : Value} {K : Act → World → Prop} {Q : Exit → Act → World → Prop} (h : (execOp a.eval o).run P w = .halt (.panic v) w') (k : Q (.panic [{ v, recovered := false }]) a w') : o.wp P a w K Q := by
  unfold Oper.wp; rw [h]; exact k
theorem undef_is (V : Vl) : undefA.is V undef := rfl
theorem Step.of_same {S : Nat → Prop} {V : Vl} {m m' : Mem} {w : World} (h : Sat V S m w) (e : m' = m) : Step S V m w V m' w := by subst e; exact Step.refl h
/-- such an operation by its law: what it comes to, in a world that holds what it touches -/
theorem opR_wp {E : Env} (hE : EnvOk P E) {e : Operand → AV} {o : Oper} {m m' : Mem} {x : AV} {pan : Bool} (he : opR P E e o m = some ((x, pan), m')) {V : Vl} {S : Nat → Prop} {w : World} {a : Act} {K : Act → World → Prop} {Q : Exit → Act → World → Prop}
    (hwf : m.wf) (hg : GV E.gs V) (hev : ∀ y ∈ o.op.operands, (e y).is V (a.eval y)) (hsat : Sat V S m w) (hS : ∀ b, bit m'.T b → S b) (hf : Free V m m')
    (hK : ∀ V' w' v, Step S V m w V' m' w' → x.is V' v → if pan then Q (.panic [{ v, recovered := false }]) a w' else K (a.put o.dst v) w') : o.wp P a w K Q := by
  classical
  have hfact := opR_fact hE he
  -- the operands alone count
  let e' : Operand → AV := fun y => if y ∈ o.op.operands.toList then e y else .lit (a.eval y)
  have he' : ∀ y, (e' y).is V (a.eval y) := fun y => by
    show AV.is V (if y ∈ o.op.operands.toList then e y else .lit (a.eval y)) _
    split
    · rename_i hy; exact hev y (Array.mem_toList_iff.1 hy)
    · rfl
  have hcongr : opE P E.has e o m = opE P E.has e' o m := opE_congr fun y hy => by
    show e y = if y ∈ o.op.operands.toList then e y else .lit (a.eval y)
    rw [if_pos (Array.mem_toList_iff.2 hy)]
  unfold opR at he
  rw [hcongr] at he
  split at he
  · rename_i y m1 hop
    cases he
    obtain ⟨v, w', V', h1, h2, h3⟩ := op_does hsat he' hS hf hop
    exact wp_value h1 (hK V' w' v h3 h2)
  · rename_i m1 hop
    cases he
    obtain ⟨w', V', h1, h3⟩ := op_does hsat he' hS hf hop
    exact wp_skipv h1 (hK V' w' undef h3 (undef_is _))
  · rename_i y m1 hop
    cases he
    obtain ⟨v, h1, h2, h3⟩ := op_does hsat he' hS hf hop
    exact wp_pan h1 (hK V w v (Step.of_same hsat h3) h2)
  · rename_i f args m1 hop
    split at he
    case isFalse => cases he
    rename_i hhas
    have main : ∀ r, E.call f args m1 = some (r, m') → ∃ vs : Array Value, (execOp a.eval o).run P w = .ok (.enter f vs) w ∧ Calls P f vs w (fun en w' => ∃ V', Step S V m w V' m' w' ∧ EndIs V' r en) := fun r hc => by
      have hf2 := hE.fact _ _ _ _ _ hc
      obtain ⟨vs, h1, h2, h3⟩ := op_does hsat he' (fun b hb => hS b (hf2.T b hb)) (hf.left hf2.next) hop
      subst h3
      exact ⟨vs.toArray, by rcases h2 with h2 | h2 <;> rw [h2]; exact hE.has f hhas _ w, hE.call f args m1 r m' hc V S w vs hg h1 hwf hsat hS hf⟩
    split at he
    · rename_i y m2 hc
      cases he
      obtain ⟨vs, h1, h2⟩ := main _ hc
      unfold Oper.wp
      rw [h1]
      refine Calls.mono h2 fun en w' hen => ?_
      obtain ⟨V', hst, v, rfl, hy⟩ := hen
      exact hK V' w' v hst hy
    · rename_i y m2 hc
      cases he
      obtain ⟨vs, h1, h2⟩ := main _ hc
      unfold Oper.wp
      rw [h1]
      refine Calls.mono h2 fun en w' hen => ?_
      obtain ⟨V', hst, v, rfl, hy⟩ := hen
      exact hK V' w' v hst hy
    · cases he
  · cases he
end
section
variable {P : Program}
/-- an operation of a region that draws its order, as it went in the order of the text -/
structure Rec where
  i : Nat
  o : Oper
  T0 : Tr AV
  m0 : Mem
  run : Bool
  pan : Bool
  x : AV
  m1 : Mem
def Rec.wr (r : Rec) (b : Nat) : Bool := r.m1.W.testBit b || (decide (r.m0.next ≤ b) && decide (b < r.m1.next))
def tmD (rs : List Rec) (D : Nat → Bool) (z : AV) (t : Nat) : AV := rs.foldl (fun acc r => if D r.i = true ∧ r.o.dst = some t then r.x else acc) z
def memD (rs : List Rec) (D : Nat → Bool) (z : Option AB) (b : Nat) : Option AB := rs.foldl (fun acc r => if D r.i = true ∧ r.wr b = true then r.m1.get b else acc) z
/-- who writes last counts alone -/
theorem fold_congr {α β : Type} (rs : List α) (c c' : α → Prop) [∀ r, Decidable (c r)] [∀ r, Decidable (c' r)] (f : α → β) : ∀ z : β, (∀ r ∈ rs, (c r ↔ c' r)) → rs.foldl (fun acc r => if c r then f r else acc) z = rs.foldl (fun acc r => if c' r then f r else acc) z := by
  induction rs with
  | nil => intro z _; rfl
  | cons r rs ih =>
    intro z h
    simp only [List.foldl_cons]
    have h1 := h r (by simp)
    rw [ih _ (fun q hq => h q (by simp [hq]))]
    congr 1
    by_cases hc : c r
    · rw [if_pos hc, if_pos (h1.1 hc)]
    · rw [if_neg hc, if_neg (fun k => hc (h1.2 k))]
theorem fold_none {α β : Type} (rs : List α) (c : α → Prop) [∀ r, Decidable (c r)] (f : α → β) : ∀ z : β, (∀ r ∈ rs, ¬ c r) → rs.foldl (fun acc r => if c r then f r else acc) z = z := by
  induction rs with
  | nil => intro z _; rfl
  | cons r rs ih =>
    intro z h
    simp only [List.foldl_cons]
    rw [if_neg (h r (by simp))]
    exact ih z (fun q hq => h q (by simp [hq]))
/-- the last one -/
theorem fold_last {α β : Type} (rs : List α) (c : α → Prop) [∀ r, Decidable (c r)] (f : α → β) (key : α → Nat) (r : α) (hc : c r) : ∀ z : β, r ∈ rs → rs.Pairwise (fun a b => key a < key b) → (∀ q ∈ rs, key r < key q → ¬ c q) → rs.foldl (fun acc r => if c r then f r else acc) z = f r := by
  induction rs with
  | nil => intro z h; cases h
  | cons q rs ih =>
    intro z h hp hl
    simp only [List.foldl_cons]
    rw [List.pairwise_cons] at hp
    rcases List.mem_cons.1 h with rfl | h
    · rw [if_pos hc]
      exact fold_none rs c f _ (fun p hp' => hl p (by simp [hp']) (hp.1 p hp'))
    · exact ih _ h hp.2 (fun p hp' => hl p (by simp [hp']))
/-- marks are laid anew for each operation -/
def zeroed (m : Mem) : Mem := { m with T := 0, W := 0 }
def setT (T : Tr AV) (d : Option Nat) (x : AV) : Tr AV := match d with | some d => T.set d (some x) | none => T
theorem tmpE_setT (T : Tr AV) (d : Option Nat) (x : AV) (t : Nat) : tmpE (setT T d x) t = if d = some t then x else tmpE T t := by
  cases d with
  | none => simp [setT]
  | some d =>
    unfold setT tmpE
    simp only [Tr.get_set]
    by_cases h : t = d
    · subst h; simp
    · have h2 : ¬ d = t := fun e => h e.symm
      simp [h, h2]
/-- operations in the order of the text: what each came to -/
inductive Chain (P : Program) (E : Env) (ops : Array Oper) (n : Nat) : Nat → Tr AV → Mem → List Rec → Tr AV → Mem → Prop where
  | nil {k : Nat} {T : Tr AV} {m : Mem} : Chain P E ops n k T m [] T m
  | cons {k i : Nat} {T Tf : Tr AV} {m mf : Mem} {r : Rec} {rs : List Rec} (hk : k ≤ i) (hi : r.i = i) (ho : ops[i]? = some r.o) (hT : r.T0 = T) (hm : r.m0 = zeroed m) (hd : ∀ d, r.o.dst = some d → d < n)
    (hr : (r.run = true ∧ wantE ops T n r.o = some true ∧ opR P E (evO E.gs T) r.o r.m0 = some ((r.x, r.pan), r.m1)) ∨ (r.run = false ∧ r.pan = false ∧ wantE ops T n r.o = some false ∧ r.x = undefA ∧ r.m1 = r.m0))
    (rest : Chain P E ops n (i + 1) (setT T r.o.dst r.x) r.m1 rs Tf mf) : Chain P E ops n k T m (r :: rs) Tf mf
theorem Chain.ge {E : Env} {ops : Array Oper} {n k : Nat} {T Tf : Tr AV} {m mf : Mem} {rs : List Rec} (h : Chain P E ops n k T m rs Tf mf) : ∀ r ∈ rs, k ≤ r.i := by
  induction h with
  | nil => simp
  | cons hk hi _ _ _ _ _ _ ih =>
    intro q hq
    rcases List.mem_cons.1 hq with rfl | hq
    · omega
    · have := ih q hq; omega
theorem Chain.sorted {E : Env} {ops : Array Oper} {n k : Nat} {T Tf : Tr AV} {m mf : Mem} {rs : List Rec} (h : Chain P E ops n k T m rs Tf mf) : rs.Pairwise (fun a b => a.i < b.i) := by
  induction h with
  | nil => exact .nil
  | cons hk hi _ _ _ _ _ rest ih =>
    refine List.pairwise_cons.2 ⟨fun q hq => ?_, ih⟩
    have := rest.ge q hq
    omega
theorem Chain.fact {E : Env} (hE : EnvOk P E) {ops : Array Oper} {n k : Nat} {T Tf : Tr AV} {m mf : Mem} {rs : List Rec} (h : Chain P E ops n k T m rs Tf mf) : ∀ r ∈ rs, Fact r.m0 r.m1 ∧ r.m0.T = 0 ∧ r.m0.W = 0 := by
  induction h with
  | nil => simp
  | cons hk hi _ _ hm _ hr _ ih =>
    intro q hq
    rcases List.mem_cons.1 hq with rfl | hq
    · refine ⟨?_, by rw [hm]; rfl, by rw [hm]; rfl⟩
      rcases hr with ⟨_, _, h3⟩ | ⟨_, _, _, _, h3⟩
      · exact opR_fact hE h3
      · rw [h3]; exact Fact.refl _
    · exact ih q hq
theorem Chain.next {E : Env} (hE : EnvOk P E) {ops : Array Oper} {n k : Nat} {T Tf : Tr AV} {m mf : Mem} {rs : List Rec} (h : Chain P E ops n k T m rs Tf mf) : m.next ≤ mf.next ∧ (∀ r ∈ rs, m.next ≤ r.m0.next ∧ r.m0.next ≤ r.m1.next ∧ r.m1.next ≤ mf.next) ∧ rs.Pairwise (fun a b => a.m1.next ≤ b.m0.next) := by
  induction h with
  | nil => exact ⟨Nat.le_refl _, by simp, .nil⟩
  | cons hk hi ho hT hm hd hr rest ih =>
    rename_i i T Tf m mf r rs
    have hf : Fact r.m0 r.m1 := by
      rcases hr with ⟨_, _, h3⟩ | ⟨_, _, _, _, h3⟩
      · exact opR_fact hE h3
      · rw [h3]; exact Fact.refl _
    have h0 : r.m0.next = m.next := by rw [hm]; rfl
    have h1 := hf.next
    obtain ⟨i1, i2, i3⟩ := ih
    refine ⟨by omega, fun q hq => ?_, List.pairwise_cons.2 ⟨fun q hq => (i2 q hq).1, i3⟩⟩
    rcases List.mem_cons.1 hq with rfl | hq
    · exact ⟨by omega, h1, i1⟩
    · have := i2 q hq; exact ⟨by omega, this.2.1, this.2.2⟩
theorem Chain.wf {E : Env} (hE : EnvOk P E) {ops : Array Oper} {n k : Nat} {T Tf : Tr AV} {m mf : Mem} {rs : List Rec} (h : Chain P E ops n k T m rs Tf mf) (hw : m.wf) : mf.wf ∧ ∀ r ∈ rs, r.m0.wf ∧ r.m1.wf := by
  induction h with
  | nil => exact ⟨hw, by simp⟩
  | cons hk hi ho hT hm hd hr rest ih =>
    rename_i i T Tf m mf r rs
    have hf : Fact r.m0 r.m1 := by
      rcases hr with ⟨_, _, h3⟩ | ⟨_, _, _, _, h3⟩
      · exact opR_fact hE h3
      · rw [h3]; exact Fact.refl _
    have h0 : r.m0.wf := by rw [hm]; exact hw
    have h1 := hf.wf h0
    obtain ⟨i1, i2⟩ := ih h1
    refine ⟨i1, fun q hq => ?_⟩
    rcases List.mem_cons.1 hq with rfl | hq
    · exact ⟨h0, h1⟩
    · exact i2 q hq
/-- the slots and the memory that an operation met -/
theorem Chain.met {E : Env} (hE : EnvOk P E) {ops : Array Oper} {n k : Nat} {T Tf : Tr AV} {m mf : Mem} {rs : List Rec} (h : Chain P E ops n k T m rs Tf mf) (hw : m.wf) :
    (∀ r ∈ rs, (∀ t, tmpE r.T0 t = tmD rs (fun i => decide (i < r.i)) (tmpE T t) t) ∧ ∀ b, r.m0.get b = memD rs (fun i => decide (i < r.i)) (m.get b) b) ∧
    (∀ t, tmpE Tf t = tmD rs (fun _ => true) (tmpE T t) t) ∧ ∀ b, mf.get b = memD rs (fun _ => true) (m.get b) b := by
  induction h with
  | nil => exact ⟨by simp, fun _ => rfl, fun _ => rfl⟩
  | cons hk hi ho hT hm hd hr rest ih =>
    rename_i i T Tf m mf r rs
    have hf : Fact r.m0 r.m1 := by
      rcases hr with ⟨_, _, h3⟩ | ⟨_, _, _, _, h3⟩
      · exact opR_fact hE h3
      · rw [h3]; exact Fact.refl _
    have h0 : r.m0.wf := by rw [hm]; exact hw
    have hge := rest.ge
    obtain ⟨i1, i2, i3⟩ := ih (hf.wf h0)
    have hmem : ∀ b, r.m1.get b = if r.wr b = true then r.m1.get b else m.get b := fun b => by
      split
      · rfl
      · rename_i hn
        have hg : r.m0.get b = m.get b := by rw [hm]; rfl
        rw [← hg]
        unfold Rec.wr at hn
        simp only [Bool.or_eq_true, Bool.and_eq_true, decide_eq_true_eq, not_or, not_and] at hn
        by_cases hb : b < r.m0.next
        · exact hf.same b hb hn.1
        · exact hf.far b (by have := hn.2 (by omega); omega) hn.1
    refine ⟨fun q hq => ?_, fun t => ?_, fun b => ?_⟩
    · rcases List.mem_cons.1 hq with rfl | hq
      · refine ⟨fun t => ?_, fun b => ?_⟩
        · rw [hT]
          exact (fold_none _ _ _ _ (fun p hp => by
            rcases List.mem_cons.1 hp with rfl | hp
            · simp
            · have := hge p hp
              simp only [decide_eq_true_eq, not_and]
              omega)).symm
        · have hg : q.m0.get b = m.get b := by rw [hm]; rfl
          rw [hg]
          exact (fold_none _ _ _ _ (fun p hp => by
            rcases List.mem_cons.1 hp with rfl | hp
            · simp
            · have := hge p hp
              simp only [decide_eq_true_eq, not_and]
              omega)).symm
      · have hlt : r.i < q.i := by have := hge q hq; omega
        obtain ⟨j1, j2⟩ := i1 q hq
        refine ⟨fun t => ?_, fun b => ?_⟩
        · rw [j1 t, tmpE_setT]
          unfold tmD
          simp only [List.foldl_cons, decide_eq_true hlt, true_and]
        · rw [j2 b, hmem b]
          unfold memD
          simp only [List.foldl_cons, decide_eq_true hlt, true_and]
    · rw [i2 t, tmpE_setT]
      unfold tmD
      simp only [List.foldl_cons, true_and]
    · rw [i3 b, hmem b]
      unfold memD
      simp only [List.foldl_cons, true_and]
end
section
variable {P : Program}
def befs (acc : Array Nat) (o : Oper) : Nat := o.after.foldl (fun s e => if Region.binds .any e then s ||| 2 ^ e.on ||| acc.getD e.on 0 else s) 0
theorem befs_bit (acc : Array Nat) (o : Oper) (i : Nat) (h : bit (befs acc o) i) : ∃ e ∈ o.after, Region.binds .any e = true ∧ (i = e.on ∨ bit (acc.getD e.on 0) i) := by
  have key : ∀ (l : List Edge) (s : Nat), (∀ e ∈ l, e ∈ o.after) → bit (l.foldl (fun s e => if Region.binds .any e then s ||| 2 ^ e.on ||| acc.getD e.on 0 else s) s) i → bit s i ∨ ∃ e ∈ o.after, Region.binds .any e = true ∧ (i = e.on ∨ bit (acc.getD e.on 0) i) := by
    intro l
    induction l with
    | nil => intro s _ h; exact .inl h
    | cons e l ih =>
      intro s hl h
      simp only [List.foldl_cons] at h
      rcases ih _ (fun x hx => hl x (by simp [hx])) h with h1 | h1
      · by_cases hb : Region.binds .any e = true
        · rw [if_pos hb] at h1
          unfold bit at h1
          rw [Nat.testBit_or, Nat.testBit_or, Bool.or_eq_true, Bool.or_eq_true, Nat.testBit_two_pow, decide_eq_true_eq] at h1
          rcases h1 with (h2 | h2) | h2
          · exact .inl h2
          · exact .inr ⟨e, hl e (by simp), hb, .inl h2.symm⟩
          · exact .inr ⟨e, hl e (by simp), hb, .inr h2⟩
        · rw [if_neg hb] at h1; exact .inl h1
      · exact .inr h1
  unfold befs at h
  rw [← Array.foldl_toList] at h
  rcases key _ 0 (fun e he => Array.mem_toList_iff.1 he) h with h1 | h1
  · unfold bit at h1; simp at h1
  · exact h1
theorem before_closed (ops : Array Oper) {j i : Nat} {o : Oper} (ho : ops[j]? = some o) (hb : bit ((Region.before ops).getD j 0) i) : ∃ e ∈ o.after, Region.binds .any e = true ∧ (i = e.on ∨ bit ((Region.before ops).getD e.on 0) i) := by
  have key : ∀ (l : List Oper) (k : List Oper) (acc : Array Nat), k ++ l = ops.toList → acc.size = k.length → (∀ j o i, k[j]? = some o → bit (acc.getD j 0) i → ∃ e ∈ o.after, Region.binds .any e = true ∧ (i = e.on ∨ bit (acc.getD e.on 0) i)) →
      ∀ j o i, ops.toList[j]? = some o → bit ((l.foldl (fun acc o => acc.push (befs acc o)) acc).getD j 0) i → ∃ e ∈ o.after, Region.binds .any e = true ∧ (i = e.on ∨ bit ((l.foldl (fun acc o => acc.push (befs acc o)) acc).getD e.on 0) i) := by
    intro l
    induction l with
    | nil => intro k acc hk hs h j o i hj; rw [List.append_nil] at hk; rw [← hk] at hj; exact h j o i hj
    | cons p l ih =>
      intro k acc hk hs h
      refine ih (k ++ [p]) (acc.push (befs acc p)) (by simp [hk]) (by simp [hs]) ?_
      intro j o i hj hbit
      have hget : ∀ x, x < acc.size → (acc.push (befs acc p)).getD x 0 = acc.getD x 0 := fun x hx => by
        rw [Array.getD_eq_getD_getElem?, Array.getD_eq_getD_getElem?, Array.getElem?_push, if_neg (by omega)]
      have hout : ∀ x, bit (acc.getD x 0) i → bit ((acc.push (befs acc p)).getD x 0) i := fun x hx => by
        by_cases hlt : x < acc.size
        · rw [hget x hlt]; exact hx
        · rw [Array.getD_eq_getD_getElem?, Array.getElem?_eq_none (by omega)] at hx
          unfold bit at hx; simp at hx
      by_cases hjk : j < k.length
      · rw [List.getElem?_append_left hjk] at hj
        rw [hget j (by omega)] at hbit
        obtain ⟨e, h1, h2, h3⟩ := h j o i hj hbit
        exact ⟨e, h1, h2, h3.imp id (hout _)⟩
      · rw [List.getElem?_append_right (by omega)] at hj
        have hj0 : j = k.length := by
          rcases Nat.lt_or_ge k.length j with h1 | h1
          · rw [List.getElem?_eq_none (by simp; omega)] at hj; cases hj
          · omega
        subst hj0
        simp at hj
        subst hj
        rw [Array.getD_eq_getD_getElem?, Array.getElem?_push, if_pos hs.symm] at hbit
        obtain ⟨e, h1, h2, h3⟩ := befs_bit acc p i hbit
        exact ⟨e, h1, h2, h3.imp id (hout _)⟩
  have h := key ops.toList [] #[] (by simp) rfl (by simp) j o i (by rw [Array.getElem?_toList]; exact ho)
  have e : Region.before ops = ops.toList.foldl (fun acc o => acc.push (befs acc o)) #[] := by
    unfold Region.before
    rw [← Array.foldl_toList]
    rfl
  rw [e] at hb ⊢
  exact h hb
/-- which of two must be told of the other -/
def bornBits (a b : Nat) : Nat := (1 <<< b) - (1 <<< a)
theorem born_bit {a b i : Nat} (h1 : a ≤ i) (h2 : i < b) : bit (bornBits a b) i := by
  unfold bit bornBits
  rw [Nat.one_shiftLeft, Nat.one_shiftLeft]
  have e : (2 ^ b - 2 ^ a) = (2 ^ (b - a) - 1) * 2 ^ a := by
    rw [Nat.sub_mul, Nat.one_mul, ← Nat.pow_add, Nat.sub_add_cancel (by omega)]
  rw [e, ← Nat.shiftLeft_eq, Nat.testBit_shiftLeft, decide_eq_true (show i ≥ a from h1), Bool.true_and, Nat.testBit_two_pow_sub_one]
  exact decide_eq_true (by omega)
def Rec.X (r : Rec) : Nat := r.m1.W ||| bornBits r.m0.next r.m1.next
theorem Rec.wr_bit {r : Rec} {b : Nat} (h : r.wr b = true) : bit r.X b := by
  unfold Rec.wr at h
  unfold bit Rec.X
  rw [Nat.testBit_or, Bool.or_eq_true]
  rw [Bool.or_eq_true] at h
  rcases h with h | h
  · exact .inl h
  · simp only [Bool.and_eq_true, decide_eq_true_eq] at h
    exact .inr (born_bit h.1 h.2)
theorem and_zero {a b i : Nat} (h : a &&& b = 0) (ha : bit a i) (hb : bit b i) : False := by
  have : (a &&& b).testBit i = true := by rw [Nat.testBit_and, Bool.and_eq_true]; exact ⟨ha, hb⟩
  rw [h] at this; simp at this
/-- p came ahead of q in the text's order: nothing of either's is the other's -/
def free2 (ops : Array Oper) (p q : Rec) : Bool := p.o.apart ops q.o && decide (p.X &&& q.m1.T = 0) && decide (q.m1.W &&& p.m1.T = 0)
/-- each two are free of one another, or in their order -/
def pairsOk (ops : Array Oper) (bf : Array Nat) : List Rec → Bool
  | [] => true
  | p :: rs => rs.all (fun q => (bf.getD q.i 0).testBit p.i || free2 ops p q) && pairsOk ops bf rs
theorem pairs_ok {ops : Array Oper} {bf : Array Nat} : ∀ {rs : List Rec}, pairsOk ops bf rs = true → rs.Pairwise (fun a b => a.i < b.i) → ∀ p ∈ rs, ∀ q ∈ rs, p.i < q.i → bit (bf.getD q.i 0) p.i ∨ free2 ops p q = true
  | [], _, _, p, hp, _, _, _ => by cases hp
  | r :: rs, h, hs, p, hp, q, hq, hlt => by
    unfold pairsOk at h
    rw [Bool.and_eq_true, List.all_eq_true] at h
    rw [List.pairwise_cons] at hs
    rcases List.mem_cons.1 hp with rfl | _
    · rcases List.mem_cons.1 hq with rfl | hq
      · omega
      · have := h.1 q hq
        rw [Bool.or_eq_true] at this
        exact this
    · rename_i hp'
      rcases List.mem_cons.1 hq with rfl | hq
      · have := hs.1 p hp'; omega
      · exact pairs_ok h.2 hs.2 p hp' q hq hlt
end
section
variable {P : Program}
/-- a region that draws its order, from where it begins -/
structure Rg where
  rs : List Rec
  n : Nat
  T0 : Tr AV
  m : Mem
  V0 : Vl
  S : Nat → Prop
  w0 : World
  ds : List Deferred
structure RgOk (P : Program) (E : Env) (ops : Array Oper) (g : Rg) (Tf : Tr AV) (mf : Mem) : Prop where
  env : EnvOk P E
  chain : Chain P E ops g.n 0 g.T0 g.m g.rs Tf mf
  wf : g.m.wf
  pairs : pairsOk ops (Region.before ops) g.rs = true
  sat : Sat g.V0 g.S g.m g.w0
  free : Free g.V0 g.m mf
  gv : GV E.gs g.V0
  S : ∀ r ∈ g.rs, ∀ b, b < g.m.next → bit r.m1.T b → g.S b
def Rg.bornIn (g : Rg) (D : Nat → Bool) (b : Nat) : Prop := ∃ r ∈ g.rs, D r.i = true ∧ born r.m0 r.m1 b
def Rg.inD (g : Rg) (D : Nat → Bool) (b : Nat) : Prop := g.S b ∨ g.bornIn D b
structure Inv (g : Rg) (D : Nat → Bool) (V : Vl) (a : Act) (w : World) : Prop where
  keeps : ∀ b, ¬ g.bornIn D b → V b = g.V0 b
  size : a.tmps.size = g.n
  tmps : ∀ t, (tmD g.rs D (tmpE g.T0 t) t).is V (a.tmps.getD t undef)
  dfr : a.defers = g.ds
  holds : ∀ b, g.inD D b → ∀ k, memD g.rs D (g.m.get b) b = some k → Holds V w b k
  apart : ∀ b c, g.inD D b → g.inD D c → b ≠ c → ∀ k l p q, memD g.rs D (g.m.get b) b = some k → memD g.rs D (g.m.get c) c = some l → V b = some p → V c = some q → p.1 ≠ q.1
  fr : Fr g.V0 g.S g.w0 w
  fresh : ∀ b p, g.bornIn D b → V b = some p → (g.w0.heap.size ≤ p.1 ∧ p.1 < w.heap.size) ∨ ∃ c q, g.S c ∧ g.V0 c = some q ∧ q.1 = p.1
/-- what has been carried out is closed under 'ahead of' -/
def ClosedD (ops : Array Oper) (D : Nat → Bool) : Prop := ∀ i, D i = true → ∀ k, bit ((Region.before ops).getD i 0) k → D k = true
def addD (D : Nat → Bool) (j : Nat) (i : Nat) : Bool := D i || decide (i = j)
section
variable {E : Env} {ops : Array Oper} {g : Rg} {Tf : Tr AV} {mf : Mem}
theorem RgOk.born_lt (h : RgOk P E ops g Tf mf) {r : Rec} (hr : r ∈ g.rs) {b : Nat} (hb : born r.m0 r.m1 b) : born g.m mf b := by
  have := (h.chain.next h.env).2.1 r hr
  exact ⟨by have := hb.1; omega, by have := hb.2; omega⟩
/-- two operations bear no number together -/
theorem RgOk.born_one (h : RgOk P E ops g Tf mf) {r q : Rec} (hr : r ∈ g.rs) (hq : q ∈ g.rs) {b : Nat} (hb : born r.m0 r.m1 b) (hc : born q.m0 q.m1 b) : r = q := by
  have hp := (h.chain.next h.env).2.2
  have hs := h.chain.sorted
  have key : ∀ {l : List Rec}, l.Pairwise (fun a b => a.m1.next ≤ b.m0.next) → ∀ x ∈ l, ∀ y ∈ l, x ≠ y → x.m1.next ≤ y.m0.next ∨ y.m1.next ≤ x.m0.next := by
    intro l
    induction l with
    | nil => intro _ x hx; cases hx
    | cons z l ih =>
      intro hp x hx y hy hxy
      rw [List.pairwise_cons] at hp
      rcases List.mem_cons.1 hx with h1 | h1
      · rcases List.mem_cons.1 hy with h2 | h2
        · exact absurd (h1.trans h2.symm) hxy
        · rw [h1]; exact .inl (hp.1 y h2)
      · rcases List.mem_cons.1 hy with h2 | h2
        · rw [h2]; exact .inr (hp.1 x h1)
        · exact ih hp.2 x h1 y h2 hxy
  refine Classical.byContradiction fun hne => ?_
  · rcases key hp r hr q hq hne with h1 | h1
    · have := hb.2; have := hc.1; omega
    · have := hb.1; have := hc.2; omega
theorem RgOk.inj (h : RgOk P E ops g Tf mf) {r q : Rec} (hr : r ∈ g.rs) (hq : q ∈ g.rs) (hi : r.i = q.i) : r = q := by
  have hs := h.chain.sorted
  have key : ∀ {l : List Rec}, l.Pairwise (fun a b => a.i < b.i) → ∀ x ∈ l, ∀ y ∈ l, x ≠ y → x.i ≠ y.i := by
    intro l
    induction l with
    | nil => intro _ x hx; cases hx
    | cons z l ih =>
      intro hp x hx y hy hxy
      rw [List.pairwise_cons] at hp
      rcases List.mem_cons.1 hx with h1 | h1
      · rcases List.mem_cons.1 hy with h2 | h2
        · exact absurd (h1.trans h2.symm) hxy
        · rw [h1]; have := hp.1 y h2; omega
      · rcases List.mem_cons.1 hy with h2 | h2
        · rw [h2]; have := hp.1 x h1; omega
        · exact ih hp.2 x h1 y h2 hxy
  exact Classical.byContradiction fun hne => key hs r hr q hq hne hi
/-- of two that clash the text's order is kept: who is ready has met just who came ahead -/
theorem RgOk.clash (h : RgOk P E ops g Tf mf) {D : Nat → Bool} (hD : ClosedD ops D) {r : Rec} (hr : r ∈ g.rs) (hready : ∀ k, bit ((Region.before ops).getD r.i 0) k → D k = true) (hj : D r.i = false) {q : Rec} (hq : q ∈ g.rs)
    (hc : q.i < r.i → free2 ops q r = false) (hc' : r.i < q.i → free2 ops r q = false) : D q.i = true ↔ q.i < r.i := by
  have hp := fun (x y : Rec) (hx : x ∈ g.rs) (hy : y ∈ g.rs) => pairs_ok h.pairs h.chain.sorted x hx y hy
  constructor
  · intro hq1
    rcases Nat.lt_trichotomy q.i r.i with h1 | h1 | h1
    · exact h1
    · rw [h1, hj] at hq1; cases hq1
    · rcases hp r q hr hq h1 with h2 | h2
      · rw [hD q.i hq1 r.i h2] at hj; cases hj
      · rw [hc' h1] at h2; cases h2
  · intro h1
    rcases hp q r hq hr h1 with h2 | h2
    · exact hready _ h2
    · rw [hc h1] at h2; cases h2
theorem free2_spec {p q : Rec} (h : free2 ops p q = true) : p.o.apart ops q.o = true ∧ p.X &&& q.m1.T = 0 ∧ q.m1.W &&& p.m1.T = 0 := by
  unfold free2 at h
  rw [Bool.and_eq_true, Bool.and_eq_true, decide_eq_true_eq, decide_eq_true_eq] at h
  exact ⟨h.1.1, h.1.2, h.2⟩
/-- what an operation touched lay there, or was born by it -/
theorem RgOk.touch (h : RgOk P E ops g Tf mf) {r : Rec} (hr : r ∈ g.rs) {b : Nat} (hb : bit r.m1.T b) : (b < r.m0.next ∧ (r.m0.get b).isSome = true) ∨ born r.m0 r.m1 b := by
  obtain ⟨hf, h0, _⟩ := h.chain.fact h.env r hr
  have hw := ((h.chain.wf h.env h.wf).2 r hr).1
  rcases hf.live hw b hb with h1 | h1 | h1
  · rw [h0] at h1; unfold bit at h1; simp at h1
  · exact .inr h1
  · refine .inl ⟨Classical.byContradiction fun hn => ?_, h1⟩
    rw [hw b (by omega)] at h1; cases h1
theorem RgOk.order (h : RgOk P E ops g Tf mf) {r q : Rec} (hr : r ∈ g.rs) (hq : q ∈ g.rs) (hlt : r.i < q.i) : r.m1.next ≤ q.m0.next := by
  have hp := (h.chain.next h.env).2.2
  have hs := h.chain.sorted
  have key : ∀ {l : List Rec}, l.Pairwise (fun a b => a.m1.next ≤ b.m0.next) → l.Pairwise (fun a b => a.i < b.i) → ∀ x ∈ l, ∀ y ∈ l, x.i < y.i → x.m1.next ≤ y.m0.next := by
    intro l
    induction l with
    | nil => intro _ _ x hx; cases hx
    | cons z l ih =>
      intro hp hs x hx y hy hxy
      rw [List.pairwise_cons] at hp hs
      rcases List.mem_cons.1 hx with h1 | h1
      · rcases List.mem_cons.1 hy with h2 | h2
        · rw [h1, h2] at hxy; omega
        · rw [h1]; exact hp.1 y h2
      · rcases List.mem_cons.1 hy with h2 | h2
        · have := hs.1 x h1; rw [h2] at hxy; omega
        · exact ih hp.2 hs.2 x h1 y h2 hxy
  exact key hp hs r hr q hq hlt
/-- who writes what is touched -/
theorem RgOk.clash_mem (h : RgOk P E ops g Tf mf) {D : Nat → Bool} (hD : ClosedD ops D) {r : Rec} (hr : r ∈ g.rs) (hready : ∀ k, bit ((Region.before ops).getD r.i 0) k → D k = true) (hj : D r.i = false) {b : Nat} (hb : bit r.m1.T b ∨ born r.m0 r.m1 b) {q : Rec} (hq : q ∈ g.rs) (hw : q.wr b = true) : D q.i = true ↔ q.i < r.i := by
  refine h.clash hD hr hready hj hq (fun hlt => ?_) (fun hlt => ?_)
  · rw [Bool.eq_false_iff]
    intro hf
    obtain ⟨_, h2, h3⟩ := free2_spec hf
    rcases hb with hb | hb
    · exact and_zero h2 (Rec.wr_bit hw) hb
    · have ho := h.order hq hr hlt
      unfold Rec.wr at hw
      rw [Bool.or_eq_true] at hw
      rcases hw with hw | hw
      · obtain ⟨hf, h0, h00⟩ := h.chain.fact h.env q hq
        rcases hf.sub b hw with h4 | h4
        · rw [h00] at h4; unfold bit at h4; simp at h4
        · rcases h.touch hq h4 with h5 | h5
          · have := hb.1; have := hf.next; omega
          · have := hb.1; have := h5.2; omega
      · simp only [Bool.and_eq_true, decide_eq_true_eq] at hw
        have := hb.1; omega
  · rw [Bool.eq_false_iff]
    intro hf
    obtain ⟨_, h2, h3⟩ := free2_spec hf
    have ho := h.order hr hq hlt
    unfold Rec.wr at hw
    rw [Bool.or_eq_true] at hw
    rcases hw with hw | hw
    · rcases hb with hb | hb
      · exact and_zero h3 hw hb
      · obtain ⟨hf, h0, h00⟩ := h.chain.fact h.env q hq
        rcases hf.sub b hw with h4 | h4
        · rw [h00] at h4; unfold bit at h4; simp at h4
        · refine and_zero h2 (i := b) ?_ h4
          unfold bit Rec.X
          rw [Nat.testBit_or, Bool.or_eq_true]
          exact .inr (born_bit hb.1 hb.2)
    · simp only [Bool.and_eq_true, decide_eq_true_eq] at hw
      rcases hb with hb | hb
      · rcases h.touch hr hb with h5 | h5
        · have := (h.chain.fact h.env r hr).1.next; omega
        · have := h5.2; omega
      · have := hb.2; omega
theorem RgOk.clash_tmp (h : RgOk P E ops g Tf mf) {D : Nat → Bool} (hD : ClosedD ops D) {r : Rec} (hr : r ∈ g.rs) (hready : ∀ k, bit ((Region.before ops).getD r.i 0) k → D k = true) (hj : D r.i = false) {t : Nat} (ht : t ∈ r.o.looksAt ops ∨ r.o.dst = some t) {q : Rec} (hq : q ∈ g.rs) (hw : q.o.dst = some t) : D q.i = true ↔ q.i < r.i := by
  refine h.clash hD hr hready hj hq (fun hlt => ?_) (fun hlt => ?_)
  · rw [Bool.eq_false_iff]
    intro hf
    obtain ⟨h1, h2, h3⟩ := Oper.apart_spec (free2_spec hf).1
    rcases ht with ht | ht
    · exact h1 t hw ht
    · exact h2 t hw ht
  · rw [Bool.eq_false_iff]
    intro hf
    obtain ⟨h1, h2, h3⟩ := Oper.apart_spec (free2_spec hf).1
    rcases ht with ht | ht
    · exact h3 t hw ht
    · exact h2 t ht hw
end
end
section
variable {P : Program} {E : Env} {ops : Array Oper} {g : Rg} {Tf : Tr AV} {mf : Mem}
theorem RgOk.mem_met (h : RgOk P E ops g Tf mf) {D : Nat → Bool} (hD : ClosedD ops D) {r : Rec} (hr : r ∈ g.rs) (hready : ∀ k, bit ((Region.before ops).getD r.i 0) k → D k = true) (hj : D r.i = false) {b : Nat} (hb : bit r.m1.T b) : memD g.rs D (g.m.get b) b = r.m0.get b := by
  rw [((h.chain.met h.env h.wf).1 r hr).2 b]
  refine fold_congr _ _ _ _ _ fun q hq => ?_
  constructor
  · rintro ⟨h1, h2⟩
    exact ⟨decide_eq_true ((h.clash_mem hD hr hready hj (.inl hb) hq h2).1 h1), h2⟩
  · rintro ⟨h1, h2⟩
    exact ⟨(h.clash_mem hD hr hready hj (.inl hb) hq h2).2 (of_decide_eq_true h1), h2⟩
theorem RgOk.tmp_met (h : RgOk P E ops g Tf mf) {D : Nat → Bool} (hD : ClosedD ops D) {r : Rec} (hr : r ∈ g.rs) (hready : ∀ k, bit ((Region.before ops).getD r.i 0) k → D k = true) (hj : D r.i = false) {t : Nat} (ht : t ∈ r.o.looksAt ops) : tmD g.rs D (tmpE g.T0 t) t = tmpE r.T0 t := by
  rw [((h.chain.met h.env h.wf).1 r hr).1 t]
  refine fold_congr _ _ _ _ _ fun q hq => ?_
  constructor
  · rintro ⟨h1, h2⟩
    exact ⟨decide_eq_true ((h.clash_tmp hD hr hready hj (.inl ht) hq h2).1 h1), h2⟩
  · rintro ⟨h1, h2⟩
    exact ⟨(h.clash_tmp hD hr hready hj (.inl ht) hq h2).2 (of_decide_eq_true h1), h2⟩
/-- behind one more -/
theorem RgOk.mem_add (h : RgOk P E ops g Tf mf) {D : Nat → Bool} (hD : ClosedD ops D) {r : Rec} (hr : r ∈ g.rs) (hready : ∀ k, bit ((Region.before ops).getD r.i 0) k → D k = true) (hj : D r.i = false) (b : Nat) : memD g.rs (addD D r.i) (g.m.get b) b = if r.wr b = true then r.m1.get b else memD g.rs D (g.m.get b) b := by
  unfold memD
  split
  · rename_i hw
    refine fold_last _ _ _ (fun q => q.i) r ⟨by unfold addD; simp, hw⟩ _ hr h.chain.sorted fun q hq hlt hc => ?_
    have hb : bit r.m1.T b ∨ born r.m0 r.m1 b := by
      unfold Rec.wr at hw
      rw [Bool.or_eq_true] at hw
      rcases hw with hw | hw
      · obtain ⟨hf, h0, h00⟩ := h.chain.fact h.env r hr
        rcases hf.sub b hw with h4 | h4
        · rw [h00] at h4; unfold bit at h4; simp at h4
        · exact .inl h4
      · simp only [Bool.and_eq_true, decide_eq_true_eq] at hw
        exact .inr hw
    have hDq : D q.i = true := by
      have h1 := hc.1
      unfold addD at h1
      rw [Bool.or_eq_true, decide_eq_true_eq] at h1
      exact h1.resolve_right (by omega)
    have := (h.clash_mem hD hr hready hj hb hq hc.2).1 hDq
    omega
  · rename_i hw
    refine fold_congr _ _ _ _ _ fun q hq => ?_
    constructor
    · rintro ⟨h1, h2⟩
      refine ⟨?_, h2⟩
      unfold addD at h1
      rw [Bool.or_eq_true, decide_eq_true_eq] at h1
      exact h1.resolve_right (fun e => hw (by rw [← h.inj hq hr e]; exact h2))
    · rintro ⟨h1, h2⟩
      exact ⟨by unfold addD; rw [h1]; rfl, h2⟩
theorem RgOk.tmp_add (h : RgOk P E ops g Tf mf) {D : Nat → Bool} (hD : ClosedD ops D) {r : Rec} (hr : r ∈ g.rs) (hready : ∀ k, bit ((Region.before ops).getD r.i 0) k → D k = true) (hj : D r.i = false) (t : Nat) : tmD g.rs (addD D r.i) (tmpE g.T0 t) t = if r.o.dst = some t then r.x else tmD g.rs D (tmpE g.T0 t) t := by
  unfold tmD
  split
  · rename_i hw
    refine fold_last _ _ _ (fun q => q.i) r ⟨by unfold addD; simp, hw⟩ _ hr h.chain.sorted fun q hq hlt hc => ?_
    have hDq : D q.i = true := by
      have h1 := hc.1
      unfold addD at h1
      rw [Bool.or_eq_true, decide_eq_true_eq] at h1
      exact h1.resolve_right (by omega)
    have := (h.clash_tmp hD hr hready hj (.inr hw) hq hc.2).1 hDq
    omega
  · rename_i hw
    refine fold_congr _ _ _ _ _ fun q hq => ?_
    constructor
    · rintro ⟨h1, h2⟩
      refine ⟨?_, h2⟩
      unfold addD at h1
      rw [Bool.or_eq_true, decide_eq_true_eq] at h1
      exact h1.resolve_right (fun e => hw (by rw [← h.inj hq hr e]; exact h2))
    · rintro ⟨h1, h2⟩
      exact ⟨by unfold addD; rw [h1]; rfl, h2⟩
theorem RgOk.closed_add {D : Nat → Bool} (hD : ClosedD ops D) {j : Nat} (hready : ∀ k, bit ((Region.before ops).getD j 0) k → D k = true) : ClosedD ops (addD D j) := by
  intro i hi k hk
  unfold addD at hi ⊢
  rw [Bool.or_eq_true, decide_eq_true_eq] at hi
  rcases hi with hi | rfl
  · rw [hD i hi k hk]; rfl
  · rw [hready k hk]; rfl
theorem Inv.le (h : RgOk P E ops g Tf mf) {D : Nat → Bool} {V : Vl} {a : Act} {w : World} (hI : Inv g D V a w) : g.V0.le V := fun b p hb => by
  by_cases hn : g.bornIn D b
  · obtain ⟨r, hr, _, hbo⟩ := hn
    rw [h.free b (h.born_lt hr hbo)] at hb; cases hb
  · rw [hI.keeps b hn]; exact hb
/-- what an operation touches lies in the region's memory -/
theorem RgOk.touch_in (h : RgOk P E ops g Tf mf) {D : Nat → Bool} (hD : ClosedD ops D) {r : Rec} (hr : r ∈ g.rs) (hready : ∀ k, bit ((Region.before ops).getD r.i 0) k → D k = true) (hj : D r.i = false) {b : Nat} (hb : bit r.m1.T b) (hn : ¬ born r.m0 r.m1 b) : g.inD D b ∧ (memD g.rs D (g.m.get b) b).isSome = true := by
  rw [h.mem_met hD hr hready hj hb]
  rcases h.touch hr hb with ⟨h1, h2⟩ | h1
  · refine ⟨?_, h2⟩
    by_cases hlt : b < g.m.next
    · exact .inl (h.S r hr b hlt hb)
    · -- it was born on the way
      refine .inr ?_
      have hmet := ((h.chain.met h.env h.wf).1 r hr).2 b
      rw [hmet] at h2
      have hbase : g.m.get b = none := h.wf b (by omega)
      rw [hbase] at h2
      have key : ∀ (l : List Rec) (z : Option AB), (l.foldl (fun acc q => if decide (q.i < r.i) = true ∧ q.wr b = true then q.m1.get b else acc) z).isSome = true → z.isSome = true ∨ ∃ q ∈ l, q.i < r.i ∧ q.wr b = true := by
        intro l
        induction l with
        | nil => intro z hz; exact .inl hz
        | cons q l ih =>
          intro z hz
          rw [List.foldl_cons] at hz
          rcases ih _ hz with h3 | ⟨p, hp, h4⟩
          · by_cases hc : decide (q.i < r.i) = true ∧ q.wr b = true
            · exact .inr ⟨q, by simp, of_decide_eq_true hc.1, hc.2⟩
            · rw [if_neg hc] at h3; exact .inl h3
          · exact .inr ⟨p, by simp [hp], h4⟩
      -- the first that wrote it bore it
      have hex : ∃ q ∈ g.rs, q.i < r.i ∧ born q.m0 q.m1 b := by
        have hall : ∀ (k : Nat), ∀ q ∈ g.rs, q.i < k → q.i < r.i → q.wr b = true → ∃ q ∈ g.rs, q.i < r.i ∧ born q.m0 q.m1 b := by
          intro k
          induction k with
          | zero => intro q _ hk; omega
          | succ k ih =>
            intro q hq hk hlt2 hw
            unfold Rec.wr at hw
            rw [Bool.or_eq_true] at hw
            rcases hw with hw | hw
            · obtain ⟨hf, h0, h00⟩ := h.chain.fact h.env q hq
              rcases hf.sub b hw with h4 | h4
              · rw [h00] at h4; unfold bit at h4; simp at h4
              · rcases h.touch hq h4 with ⟨h5, h6⟩ | h5
                · have hm2 := ((h.chain.met h.env h.wf).1 q hq).2 b
                  rw [hm2, hbase] at h6
                  have key2 : ∀ (l : List Rec) (z : Option AB), (l.foldl (fun acc p => if decide (p.i < q.i) = true ∧ p.wr b = true then p.m1.get b else acc) z).isSome = true → z.isSome = true ∨ ∃ p ∈ l, p.i < q.i ∧ p.wr b = true := by
                    intro l
                    induction l with
                    | nil => intro z hz; exact .inl hz
                    | cons p l ih =>
                      intro z hz
                      rw [List.foldl_cons] at hz
                      rcases ih _ hz with h3 | ⟨p', hp, h4⟩
                      · by_cases hc : decide (p.i < q.i) = true ∧ p.wr b = true
                        · exact .inr ⟨p, by simp, of_decide_eq_true hc.1, hc.2⟩
                        · rw [if_neg hc] at h3; exact .inl h3
                      · exact .inr ⟨p', by simp [hp], h4⟩
                  rcases key2 g.rs none h6 with h7 | ⟨p, hp, hp1, hp2⟩
                  · cases h7
                  · exact ih p hp (by omega) (by omega) hp2
                · exact ⟨q, hq, hlt2, h5⟩
            · simp only [Bool.and_eq_true, decide_eq_true_eq] at hw
              exact ⟨q, hq, hlt2, hw⟩
        rcases key g.rs none h2 with h7 | ⟨q, hq, hq1, hq2⟩
        · cases h7
        · exact hall (q.i + 1) q hq (by omega) hq1 hq2
      obtain ⟨q, hq, hq1, hq2⟩ := hex
      refine ⟨q, hq, ?_, hq2⟩
      refine (h.clash_mem hD hr hready hj (.inl hb) hq ?_).2 hq1
      unfold Rec.wr
      rw [Bool.or_eq_true, Bool.and_eq_true, decide_eq_true_eq, decide_eq_true_eq]
      exact .inr hq2
  · exact absurd h1 hn
end
section
variable {P : Program} {E : Env} {ops : Array Oper} {g : Rg} {Tf : Tr AV} {mf : Mem}
theorem want_at {V : Vl} {T : Tr AV} {n : Nat} {tmps : Array Value} {o : Oper} {b : Bool} (hs : tmps.size = n) (h : ∀ t ∈ o.looksAt ops, (tmpE T t).is V (tmps.getD t undef)) (he : wantE ops T n o = some b) : Region.wanted o (yielded ops tmps) = b := by
  unfold wantE at he
  unfold Region.wanted
  split at he
  · rename_i hg
    cases he
    rw [hg]
  · rename_i j want hg
    split at he
    · rename_i d hd
      split at he
      · rename_i hdn
        have hx := h d (by unfold Oper.looksAt; rw [hg]; simp [hd])
        have hget : tmps[d]? = some (tmps.getD d undef) := by
          rw [Array.getD_eq_getD_getElem?, Array.getElem?_eq_getElem (by rw [hs]; exact hdn)]
          rfl
        simp only [hg]
        unfold yielded
        rw [hd]
        simp only [Option.bind_some]
        rw [hget]
        split at he
        · rename_i c hc
          cases he
          rw [hc] at hx
          rw [show tmps.getD d undef = .bool c from hx]
          cases c <;> cases want <;> rfl
        · rename_i c hc
          cases he
          rw [hc] at hx
          rw [show tmps.getD d undef = .tuple c from hx]
          cases want <;> rfl
        · cases he
      · cases he
    · cases he
theorem getD_put (a : Act) (d : Option Nat) (v : Value) (t : Nat) (h : ∀ x, d = some x → x < a.tmps.size) : (a.put d v).tmps.getD t undef = if d = some t then v else a.tmps.getD t undef := by
  cases d with
  | none => simp [Act.put]
  | some d =>
    show (a.tmps.setIfInBounds d v).getD t undef = _
    rw [Array.getD_eq_getD_getElem?, Array.getElem?_setIfInBounds]
    by_cases e : d = t
    · subst e
      simp [h d rfl]
    · have : ¬ (some d = some t) := fun x => e (Option.some.inj x)
      rw [if_neg e, if_neg this, ← Array.getD_eq_getD_getElem?]
/-- behind an operation that was ready the region's memory is that of one more -/
theorem Inv.add (h : RgOk P E ops g Tf mf) {D : Nat → Bool} {V V' : Vl} {a : Act} {w w' : World} {v : Value} (hI : Inv g D V a w) (hD : ClosedD ops D) {r : Rec} (hr : r ∈ g.rs) (hready : ∀ k, bit ((Region.before ops).getD r.i 0) k → D k = true) (hj : D r.i = false) (hd : ∀ d, r.o.dst = some d → d < g.n)
    (hst : Step (bit r.m1.T) V r.m0 w V' r.m1 w') (hv : r.x.is V' v) (hle : V.le V') : Inv g (addD D r.i) V' (a.put r.o.dst v) w' := by
  obtain ⟨hfact, hT0, hW0⟩ := h.chain.fact h.env r hr
  have hwf := (h.chain.wf h.env h.wf).2 r hr
  have hbornD : ∀ b, g.bornIn (addD D r.i) b ↔ g.bornIn D b ∨ born r.m0 r.m1 b := fun b => by
    constructor
    · rintro ⟨q, hq, hq1, hq2⟩
      unfold addD at hq1
      rw [Bool.or_eq_true, decide_eq_true_eq] at hq1
      rcases hq1 with hq1 | hq1
      · exact .inl ⟨q, hq, hq1, hq2⟩
      · rw [h.inj hq hr hq1] at hq2; exact .inr hq2
    · rintro (⟨q, hq, hq1, hq2⟩ | hb)
      · exact ⟨q, hq, by unfold addD; rw [hq1]; rfl, hq2⟩
      · exact ⟨r, hr, by unfold addD; simp, hb⟩
  have hnotD : ∀ b, born r.m0 r.m1 b → ¬ g.bornIn D b := fun b hb ⟨q, hq, hq1, hq2⟩ => by
    rw [h.born_one hr hq hb hq2] at hj; rw [hq1] at hj; cases hj
  have hSnot : ∀ b, born r.m0 r.m1 b → (g.m.get b) = none := fun b hb => h.wf b (h.born_lt hr hb).1
  have hinD : ∀ b, g.inD (addD D r.i) b ↔ g.inD D b ∨ born r.m0 r.m1 b := fun b => by
    unfold Rg.inD; rw [hbornD, or_assoc]
  have hmem := fun b => h.mem_add hD hr hready hj b
  have htouch : ∀ b, bit r.m1.T b → ¬ born r.m0 r.m1 b → g.inD D b ∧ (memD g.rs D (g.m.get b) b).isSome = true := fun b hb hn => h.touch_in hD hr hready hj hb hn
  -- of what is touched or born the step tells
  have hknown : ∀ b, (bit r.m1.T b ∨ born r.m0 r.m1 b) → memD g.rs (addD D r.i) (g.m.get b) b = r.m1.get b := fun b hb => by
    rw [hmem]
    split
    · rfl
    · rename_i hw
      unfold Rec.wr at hw
      simp only [Bool.or_eq_true, Bool.and_eq_true, decide_eq_true_eq, not_or] at hw
      rcases hb with hb | hb
      · rw [h.mem_met hD hr hready hj hb]
        by_cases hlt : b < r.m0.next
        · exact (hfact.same b hlt hw.1).symm
        · exact (hfact.far b (Nat.le_of_not_lt fun h2 => hw.2 ⟨by omega, h2⟩) hw.1).symm
      · exact absurd ⟨hb.1, hb.2⟩ hw.2
  have hother : ∀ b, ¬ bit r.m1.T b → ¬ born r.m0 r.m1 b → memD g.rs (addD D r.i) (g.m.get b) b = memD g.rs D (g.m.get b) b := fun b h1 h2 => by
    rw [hmem, if_neg]
    unfold Rec.wr
    simp only [Bool.or_eq_true, Bool.and_eq_true, decide_eq_true_eq, not_or]
    refine ⟨fun hw => ?_, h2⟩
    rcases hfact.sub b hw with h4 | h4
    · rw [hW0] at h4; unfold bit at h4; simp at h4
    · exact h1 h4
  have hVold : ∀ b, ¬ born r.m0 r.m1 b → V' b = V b := hst.keeps
  -- the block of what isn't touched stands
  have hstand : ∀ b k p, g.inD D b → ¬ bit r.m1.T b → ¬ born r.m0 r.m1 b → memD g.rs D (g.m.get b) b = some k → V b = some p → p.1 < w.heap.size ∧ (∀ c q, bit r.m1.T c → ¬ born r.m0 r.m1 c → V c = some q → q.1 ≠ p.1) ∧ w'.heap[p.1]? = w.heap[p.1]? := fun b k p hb h1 h2 hk hp => by
    obtain ⟨p2, hp2, hlt⟩ := (hI.holds b hb k hk).at
    rw [hp] at hp2; cases hp2
    have hne : ∀ c q, bit r.m1.T c → ¬ born r.m0 r.m1 c → V c = some q → q.1 ≠ p.1 := fun c q hc hcn hq => by
      obtain ⟨hcD, hcs⟩ := htouch c hc hcn
      obtain ⟨l, hl⟩ := Option.isSome_iff_exists.1 hcs
      exact hI.apart c b hcD hb (fun e => h1 (e ▸ hc)) l k q p hl hk hq hp
    refine ⟨hlt, hne, hst.fr.block p.1 hlt fun c q hc hq => ?_⟩
    by_cases hcn : born r.m0 r.m1 c
    · have : V c = none := by rw [hI.keeps c (hnotD c hcn)]; exact h.free c (h.born_lt hr hcn)
      rw [this] at hq; cases hq
    · exact hne c q hc hcn hq
  have hplus : ∀ b, (bit r.m1.T b ∨ born r.m0 r.m1 b) → plus (bit r.m1.T) r.m0 r.m1 b := fun b hb => hb
  have hlow : ∀ c q, g.inD D c → (memD g.rs D (g.m.get c) c).isSome = true → V c = some q → q.1 < w.heap.size := fun c q hc hcs hq => by
    obtain ⟨l, hl⟩ := Option.isSome_iff_exists.1 hcs
    obtain ⟨p2, hp2, hlt⟩ := (hI.holds c hc l hl).at
    rw [hq] at hp2; cases hp2; exact hlt
  -- who lies where: what is touched or born, and what is not
  have hcross : ∀ b c k l p q, (bit r.m1.T b ∨ born r.m0 r.m1 b) → g.inD D c → ¬ bit r.m1.T c → ¬ born r.m0 r.m1 c → memD g.rs (addD D r.i) (g.m.get b) b = some k → memD g.rs D (g.m.get c) c = some l → V' b = some p → V c = some q → p.1 ≠ q.1 := fun b c k l p q hb hc hc1 hc2 hk hl hp hq => by
    obtain ⟨hqlt, hqne, _⟩ := hstand c l q hc hc1 hc2 hl hq
    by_cases hbb : born r.m0 r.m1 b
    · rcases hst.fresh b p hbb hp with h1 | ⟨x, y, hx, hy, he⟩
      · omega
      · rw [← he]
        by_cases hxb : born r.m0 r.m1 x
        · have : V x = none := by rw [hI.keeps x (hnotD x hxb)]; exact h.free x (h.born_lt hr hxb)
          rw [this] at hy; cases hy
        · exact hqne x y hx hxb hy
    · rw [hVold b hbb] at hp
      exact hqne b p (hb.resolve_right hbb) hbb hp
  refine ⟨fun b hb => ?_, ?_, fun t => ?_, ?_, fun b hb k hk => ?_, fun b c hb hc hbc k l p q hk hl hp hq => ?_, ?_, fun b p hb hp => ?_⟩
  · rw [hbornD, not_or] at hb
    rw [hVold b hb.2, hI.keeps b hb.1]
  · cases hdd : r.o.dst with
    | none => exact hI.size
    | some d => show (a.tmps.setIfInBounds d v).size = _; rw [Array.size_setIfInBounds]; exact hI.size
  · rw [h.tmp_add hD hr hready hj t, getD_put a _ v t (fun x hx => by rw [hI.size]; exact hd x hx)]
    split
    · exact hv
    · exact (hI.tmps t).mono hle
  · cases hdd : r.o.dst with
    | none => exact hI.dfr
    | some d => exact hI.dfr
  · by_cases h1 : bit r.m1.T b ∨ born r.m0 r.m1 b
    · rw [hknown b h1] at hk
      exact hst.sat.holds b (hplus b h1) k hk
    · rw [not_or] at h1
      have hb' := ((hinD b).1 hb).resolve_right h1.2
      rw [hother b h1.1 h1.2] at hk
      have h2 := hI.holds b hb' k hk
      refine (h2.mono hle).heap fun p hp => ?_
      rw [hVold b h1.2] at hp
      exact (hstand b k p hb' h1.1 h1.2 hk hp).2.2
  · by_cases h1 : bit r.m1.T b ∨ born r.m0 r.m1 b
    · by_cases h2 : bit r.m1.T c ∨ born r.m0 r.m1 c
      · rw [hknown b h1] at hk
        rw [hknown c h2] at hl
        exact hst.sat.apart b c (hplus b h1) (hplus c h2) hbc k l p q hk hl hp hq
      · rw [not_or] at h2
        have hc' := ((hinD c).1 hc).resolve_right h2.2
        rw [hother c h2.1 h2.2] at hl
        rw [hVold c h2.2] at hq
        exact hcross b c k l p q h1 hc' h2.1 h2.2 hk hl hp hq
    · rw [not_or] at h1
      have hb' := ((hinD b).1 hb).resolve_right h1.2
      by_cases h2 : bit r.m1.T c ∨ born r.m0 r.m1 c
      · rw [hother b h1.1 h1.2] at hk
        rw [hVold b h1.2] at hp
        exact (hcross c b l k q p h2 hb' h1.1 h1.2 hl hk hq hp).symm
      · rw [not_or] at h2
        have hc' := ((hinD c).1 hc).resolve_right h2.2
        rw [hother b h1.1 h1.2] at hk
        rw [hother c h2.1 h2.2] at hl
        rw [hVold b h1.2] at hp
        rw [hVold c h2.2] at hq
        exact hI.apart b c hb' hc' hbc k l p q hk hl hp hq
  · refine ⟨hst.fr.os.trans hI.fr.os, hst.fr.tape.trans hI.fr.tape, hst.fr.output.trans hI.fr.output, Nat.le_trans hI.fr.size hst.fr.size, fun i hi hs => ?_⟩
    rw [hst.fr.block i (Nat.lt_of_lt_of_le hi hI.fr.size) ?_, hI.fr.block i hi hs]
    intro c q hc hq
    by_cases hcn : born r.m0 r.m1 c
    · have : V c = none := by rw [hI.keeps c (hnotD c hcn)]; exact h.free c (h.born_lt hr hcn)
      rw [this] at hq; cases hq
    · by_cases hcb : g.bornIn D c
      · rcases hI.fresh c q hcb hq with h1 | ⟨x, y, hx, hy, he⟩
        · omega
        · rw [← he]; exact hs x y hx hy
      · have hcS : g.S c := (htouch c hc hcn).1.resolve_right hcb
        rw [hI.keeps c hcb] at hq
        exact hs c q hcS hq
  · rcases (hbornD b).1 hb with hb1 | hb1
    · have hn : ¬ born r.m0 r.m1 b := fun hh => hnotD b hh hb1
      rw [hVold b hn] at hp
      exact (hI.fresh b p hb1 hp).imp (fun h1 => ⟨h1.1, Nat.lt_of_lt_of_le h1.2 hst.fr.size⟩) id
    · rcases hst.fresh b p hb1 hp with h1 | ⟨x, y, hx, hy, he⟩
      · exact .inl ⟨Nat.le_trans hI.fr.size h1.1, h1.2⟩
      · by_cases hxn : born r.m0 r.m1 x
        · have : V x = none := by rw [hI.keeps x (hnotD x hxn)]; exact h.free x (h.born_lt hr hxn)
          rw [this] at hy; cases hy
        · by_cases hxb : g.bornIn D x
          · rcases hI.fresh x y hxb hy with h2 | ⟨x', y', hx', hy', he'⟩
            · have := hst.fr.size
              exact .inl (by omega)
            · exact .inr ⟨x', y', hx', hy', by omega⟩
          · have hxS : g.S x := (htouch x hx hxn).1.resolve_right hxb
            rw [hI.keeps x hxb] at hy
            exact .inr ⟨x, y, hxS, hy, he⟩
end
section
variable {P : Program} {E : Env} {ops : Array Oper} {g : Rg} {Tf : Tr AV} {mf : Mem}
theorem countP_le' {α : Type} (p q : α → Bool) : ∀ (l : List α), (∀ x ∈ l, p x = true → q x = true) → l.countP p ≤ l.countP q
  | [], _ => Nat.le_refl _
  | x :: l, h => by
    have ih := countP_le' p q l (fun y hy => h y (by simp [hy]))
    rw [List.countP_cons, List.countP_cons]
    by_cases hp : p x = true
    · rw [if_pos hp, if_pos (h x (by simp) hp)]; omega
    · rw [if_neg hp]; omega
theorem countP_lt' {α : Type} (p q : α → Bool) (z : α) (hz : q z = true) (hz' : p z = false) : ∀ (l : List α), (∀ x ∈ l, p x = true → q x = true) → z ∈ l → l.countP p < l.countP q
  | [], _, h => by cases h
  | x :: l, h, hm => by
    rw [List.countP_cons, List.countP_cons]
    rcases List.mem_cons.1 hm with rfl | hm
    · have := countP_le' p q l (fun y hy => h y (by simp [hy]))
      rw [if_neg (by rw [hz']; simp), if_pos hz]; omega
    · have ih := countP_lt' p q z hz hz' l (fun y hy => h y (by simp [hy])) hm
      by_cases hp : p x = true
      · rw [if_pos hp, if_pos (h x (by simp) hp)]; omega
      · rw [if_neg hp]; omega
def Dof (listed : Array Bool) (i : Nat) : Bool := listed.getD i false
def left (n : Nat) (listed : Array Bool) : Nat := (List.range n).countP fun i => !Dof listed i
theorem Dof_set {listed : Array Bool} {i : Nat} (h : i < listed.size) : Dof (listed.setIfInBounds i true) = addD (Dof listed) i := by
  funext k
  unfold Dof addD
  rw [Array.getD_eq_getD_getElem?, Array.getElem?_setIfInBounds]
  by_cases e : i = k
  · subst e; simp [h]
  · have e2 : ¬ k = i := fun x => e x.symm
    simp [e, e2]
theorem left_set {n : Nat} {listed : Array Bool} {i : Nat} (h : i < listed.size) (hn : i < n) (hi : Dof listed i = false) : left n (listed.setIfInBounds i true) < left n listed := by
  unfold left
  refine countP_lt' _ _ i ?_ ?_ _ (fun x _ hx => ?_) (List.mem_range.2 hn)
  · rw [hi]; rfl
  · rw [Dof_set h]; unfold addD; simp
  · rw [Dof_set h] at hx
    unfold addD at hx
    simp only [Bool.not_or, Bool.and_eq_true] at hx
    exact hx.1
theorem Chain.born_cover (hE : EnvOk P E) {n k : Nat} {T Tf : Tr AV} {m mf : Mem} {rs : List Rec} (h : Chain P E ops n k T m rs Tf mf) : ∀ b, born m mf b → ∃ r ∈ rs, born r.m0 r.m1 b := by
  induction h with
  | nil => intro b hb; unfold born at hb; omega
  | cons hk hi ho hT hm hd hr rest ih =>
    rename_i i T Tf m mf r rs
    intro b hb
    by_cases hlt : b < r.m1.next
    · exact ⟨r, by simp, by rw [hm]; exact hb.1, hlt⟩
    · obtain ⟨q, hq, hq2⟩ := ih b ⟨by omega, hb.2⟩
      exact ⟨q, by simp [hq], hq2⟩
/-- when all that write have come up, the region's memory is that of the text's order -/
theorem Inv.step (h : RgOk P E ops g Tf mf) {D : Nat → Bool} {V : Vl} {a : Act} {w : World} (hI : Inv g D V a w) (hall : ∀ q ∈ g.rs, ∀ b, q.wr b = true → D q.i = true) : Step g.S g.V0 g.m g.w0 V mf w := by
  have hborn : ∀ b, g.bornIn D b ↔ born g.m mf b := fun b => by
    constructor
    · rintro ⟨q, hq, _, hq2⟩; exact h.born_lt hq hq2
    · intro hb
      obtain ⟨q, hq, hq2⟩ := h.chain.born_cover h.env b hb
      refine ⟨q, hq, hall q hq b ?_, hq2⟩
      unfold Rec.wr
      rw [Bool.or_eq_true, Bool.and_eq_true, decide_eq_true_eq, decide_eq_true_eq]
      exact .inr hq2
  have hmem : ∀ b, memD g.rs D (g.m.get b) b = mf.get b := fun b => by
    rw [(h.chain.met h.env h.wf).2.2 b]
    exact fold_congr _ _ _ _ _ fun q hq => ⟨fun x => ⟨rfl, x.2⟩, fun x => ⟨hall q hq b x.2, x.2⟩⟩
  have hin : ∀ b, plus g.S g.m mf b → g.inD D b := fun b hb => hb.imp id (hborn b).2
  exact ⟨fun b hb => hI.keeps b (fun x => hb ((hborn b).1 x)), ⟨fun b hb k hk => hI.holds b (hin b hb) k (by rw [hmem]; exact hk), fun b c hb hc hbc k l p q hk hl => hI.apart b c (hin b hb) (hin c hc) hbc k l p q (by rw [hmem]; exact hk) (by rw [hmem]; exact hl)⟩, hI.fr, fun b p hb => hI.fresh b p ((hborn b).2 hb)⟩
/-- behind a panic: what must have come up has; of the rest nothing is told -/
theorem Inv.stepP (h : RgOk P E ops g Tf mf) {D : Nat → Bool} {V : Vl} {a : Act} {w : World} (hI : Inv g D V a w) (man : Rec → Prop) (hman : ∀ q ∈ g.rs, man q → D q.i = true) (hq : ∀ q ∈ g.rs, ¬ man q → q.m1.W = 0) {mp : Mem} (hn : mp.next = mf.next) (hmp : ∀ b k, mp.get b = some k → mf.get b = some k ∧ ∀ q ∈ g.rs, born q.m0 q.m1 b → man q) : Step g.S g.V0 g.m g.w0 V mp w := by
  have hbd : ∀ b, g.bornIn D b → born g.m mp b := fun b ⟨q, hq, _, hq2⟩ => by
    have := h.born_lt hq hq2
    exact ⟨this.1, by rw [hn]; exact this.2⟩
  have hmem : ∀ b k, mp.get b = some k → memD g.rs D (g.m.get b) b = some k := fun b k hk => by
    obtain ⟨h1, h2⟩ := hmp b k hk
    rw [← h1, (h.chain.met h.env h.wf).2.2 b]
    refine fold_congr _ _ _ _ _ fun q hqq => ⟨fun x => ⟨rfl, x.2⟩, fun x => ⟨hman q hqq (Classical.byContradiction fun hnm => ?_), x.2⟩⟩
    have hw := x.2
    unfold Rec.wr at hw
    rw [hq q hqq hnm] at hw
    simp only [Nat.zero_testBit, Bool.false_or, Bool.and_eq_true, decide_eq_true_eq] at hw
    exact hnm (h2 q hqq hw)
  have hin : ∀ b k, plus g.S g.m mp b → mp.get b = some k → g.inD D b := fun b k hb hk => by
    rcases hb with hb | hb
    · exact .inl hb
    · obtain ⟨q, hqq, hq2⟩ := h.chain.born_cover h.env b ⟨hb.1, by rw [← hn]; exact hb.2⟩
      exact .inr ⟨q, hqq, hman q hqq ((hmp b k hk).2 q hqq hq2), hq2⟩
  refine ⟨fun b hb => hI.keeps b (fun x => hb (hbd b x)), ⟨fun b hb k hk => hI.holds b (hin b k hb hk) k (hmem b k hk), fun b c hb hc hbc k l p q hk hl => hI.apart b c (hin b k hb hk) (hin c l hc hl) hbc k l p q (hmem b k hk) (hmem c l hl)⟩, hI.fr, fun b p hb hp => ?_⟩
  by_cases hbb : g.bornIn D b
  · exact hI.fresh b p hbb hp
  · rw [hI.keeps b hbb, h.free b ⟨hb.1, by rw [← hn]; exact hb.2⟩] at hp; cases hp
theorem Inv.begin (h : RgOk P E ops g Tf mf) {a : Act} (hs : a.tmps.size = g.n) (ht : ∀ t, (tmpE g.T0 t).is g.V0 (a.tmps.getD t undef)) (hd : a.defers = g.ds) : Inv g (fun _ => false) g.V0 a g.w0 := by
  have hno : ∀ b, ¬ g.bornIn (fun _ => false) b := fun b ⟨q, _, hq, _⟩ => by cases hq
  have hin : ∀ b, g.inD (fun _ => false) b → g.S b := fun b hb => hb.resolve_right (hno b)
  have hmem : ∀ b, memD g.rs (fun _ => false) (g.m.get b) b = g.m.get b := fun b => fold_none _ _ _ _ (fun q _ x => by cases x.1)
  exact ⟨fun _ _ => rfl, hs, fun t => by
      rw [show tmD g.rs (fun _ => false) (tmpE g.T0 t) t = tmpE g.T0 t from fold_none _ _ _ _ (fun q _ x => by cases x.1)]
      exact ht t, hd, fun b hb k hk => h.sat.holds b (hin b hb) k (by rw [← hmem b]; exact hk), fun b c hb hc hbc k l p q hk hl => h.sat.apart b c (hin b hb) (hin c hc) hbc k l p q (by rw [← hmem b]; exact hk) (by rw [← hmem c]; exact hl), ⟨rfl, rfl, rfl, Nat.le_refl _, fun _ _ _ => rfl⟩, fun b p hb => absurd hb (hno b)⟩
/-- what is left of a region behind a panic: its own slots are nobody's -/
def dsts (ops : Array Oper) : List Nat := ops.toList.filterMap (·.dst)
/-- **IN WHATEVER ORDER THE OPERATIONS COME UP, THE REGION COMES TO WHAT IT COMES TO IN THE TEXT's** -/
theorem any_ok (h : RgOk P E ops g Tf mf) {Q : Exit → Act → World → Prop} (edges : ∀ i o, ops[i]? = some o → ∀ e ∈ o.after, Region.binds .any e = true → e.on < i)
    (cover : ∀ i, i < ops.size → (∃ r ∈ g.rs, r.i = i) ∨ ∃ r ∈ g.rs, r.pan = true ∧ bit ((Region.before ops).getD i 0) r.i)
    (quiet : ∀ r ∈ g.rs, r.pan = true → ∀ q ∈ g.rs, q.i ≠ r.i → ¬ bit ((Region.before ops).getD r.i 0) q.i → q.m1.W = 0)
    {mp : Mem} (hmn : mp.next = mf.next) (hmp : ∀ r ∈ g.rs, r.pan = true → ∀ b k, mp.get b = some k → mf.get b = some k ∧ ∀ q ∈ g.rs, born q.m0 q.m1 b → q.i = r.i ∨ bit ((Region.before ops).getD r.i 0) q.i)
    (hn : ∀ V a w, Step g.S g.V0 g.m g.w0 V mf w → g.V0.le V → a.tmps.size = g.n → (∀ t, (tmpE Tf t).is V (a.tmps.getD t undef)) → a.defers = g.ds → (∀ r ∈ g.rs, r.pan = false) → Q .normal a w)
    (hp : ∀ r ∈ g.rs, r.pan = true → ∀ V a w v, Step g.S g.V0 g.m g.w0 V mp w → g.V0.le V → a.tmps.size = g.n → (∀ t, t ∉ dsts ops → (tmpE g.T0 t).is V (a.tmps.getD t undef)) → a.defers = g.ds → r.x.is V v → Q (.panic [{ v, recovered := false }]) a w) :
    ∀ (fuel : Nat) (listed : Array Bool) (V : Vl) (a : Act) (w : World), listed.size = ops.size → left ops.size listed ≤ fuel → Inv g (Dof listed) V a w → ClosedD ops (Dof listed) → (∀ r ∈ g.rs, r.pan = true → Dof listed r.i = false) → wpAny P .any ops Q fuel listed a w := by
  have hrec : ∀ r ∈ g.rs, ops[r.i]? = some r.o ∧ (∀ d, r.o.dst = some d → d < g.n) ∧ ((r.run = true ∧ wantE ops r.T0 g.n r.o = some true ∧ opR P E (evO E.gs r.T0) r.o r.m0 = some ((r.x, r.pan), r.m1)) ∨ (r.run = false ∧ r.pan = false ∧ wantE ops r.T0 g.n r.o = some false ∧ r.x = undefA ∧ r.m1 = r.m0)) := by
    have key : ∀ {k : Nat} {T Tf : Tr AV} {m mf : Mem} {rs : List Rec}, Chain P E ops g.n k T m rs Tf mf → ∀ r ∈ rs, ops[r.i]? = some r.o ∧ (∀ d, r.o.dst = some d → d < g.n) ∧ ((r.run = true ∧ wantE ops r.T0 g.n r.o = some true ∧ opR P E (evO E.gs r.T0) r.o r.m0 = some ((r.x, r.pan), r.m1)) ∨ (r.run = false ∧ r.pan = false ∧ wantE ops r.T0 g.n r.o = some false ∧ r.x = undefA ∧ r.m1 = r.m0)) := by
      intro k T Tf m mf rs hc
      induction hc with
      | nil => intro r hr; cases hr
      | cons hk hi ho hT hm hd hr rest ih =>
        intro q hq
        rcases List.mem_cons.1 hq with rfl | hq
        · rw [hi, hT]; exact ⟨ho, hd, hr⟩
        · exact ih q hq
    exact key h.chain
  have hclosed : ∀ {listed : Array Bool}, ClosedD ops (Dof listed) → ∀ {i : Nat}, i ∈ Region.ready .any ops listed → ∀ k, bit ((Region.before ops).getD i 0) k → Dof listed k = true := fun {listed} hD i hi k hk => by
    obtain ⟨_, o, ho, hall⟩ := mem_ready.1 hi
    obtain ⟨e, he, hb, hke⟩ := before_closed ops ho hk
    have h1 : Dof listed e.on = true := hall e he hb
    rcases hke with rfl | hke
    · exact h1
    · exact hD _ h1 _ hke
  have hready0 : ∀ {listed : Array Bool}, listed.size = ops.size → Region.ready .any ops listed = [] → ∀ i, i < ops.size → Dof listed i = true := fun {listed} hs hr => by
    intro i
    induction i using Nat.strongRecOn with
    | ind i ih =>
      intro hi
      refine Classical.byContradiction fun hn => ?_
      have hm : i ∈ Region.ready .any ops listed := by
        refine mem_ready.2 ⟨?_, ops[i], Array.getElem?_eq_getElem hi, fun e he hb => ?_⟩
        · unfold Dof at hn
          rw [Array.getD_eq_getD_getElem?, Array.getElem?_eq_getElem (by omega)] at hn ⊢
          simpa using hn
        · have hlt := edges i _ (Array.getElem?_eq_getElem hi) e he hb
          exact ih e.on hlt (by omega)
      rw [hr] at hm; cases hm
  have hnormal : ∀ (listed : Array Bool) (V : Vl) (a : Act) (w : World), listed.size = ops.size → Inv g (Dof listed) V a w → (∀ r ∈ g.rs, r.pan = true → Dof listed r.i = false) → Region.ready .any ops listed = [] → Q .normal a w := fun listed V a w hs hI hnp hr => by
    have hall := hready0 hs hr
    have hin : ∀ q ∈ g.rs, Dof listed q.i = true := fun q hq => hall q.i (by
      have := (hrec q hq).1
      exact (Array.getElem?_eq_some_iff.1 this).1)
    refine hn V a w (hI.step h (fun q hq b _ => hin q hq)) (Inv.le h hI) hI.size (fun t => ?_) hI.dfr (fun r hr => ?_)
    · rw [(h.chain.met h.env h.wf).2.1 t]
      rw [show tmD g.rs (fun _ => true) (tmpE g.T0 t) t = tmD g.rs (Dof listed) (tmpE g.T0 t) t from fold_congr _ _ _ _ _ fun q hq => ⟨fun x => ⟨hin q hq, x.2⟩, fun x => ⟨rfl, x.2⟩⟩]
      exact hI.tmps t
    · rw [Bool.eq_false_iff]
      intro hp
      have := hnp r hr hp
      rw [hin r hr] at this; cases this
  intro fuel
  induction fuel with
  | zero =>
    intro listed V a w hs hl hI hD hnp
    have hr : Region.ready .any ops listed = [] := by
      rw [List.eq_nil_iff_forall_not_mem]
      intro i hi
      obtain ⟨h1, o, ho, _⟩ := mem_ready.1 hi
      have hlt := (Array.getElem?_eq_some_iff.1 ho).1
      have hf : Dof listed i = false := by
        unfold Dof
        rw [Array.getD_eq_getD_getElem?, Array.getElem?_eq_getElem (by omega)] at h1 ⊢
        exact h1
      have := left_set (n := ops.size) (by omega) hlt hf
      omega
    exact ⟨hr, hnormal listed V a w hs hI hnp hr⟩
  | succ fuel ih =>
    intro listed V a w hs hl hI hD hnp
    refine ⟨hnormal listed V a w hs hI hnp, fun i hi => ?_⟩
    have hbef := hclosed hD hi
    obtain ⟨h1, o, ho, hall⟩ := mem_ready.1 hi
    have hlt := (Array.getElem?_eq_some_iff.1 ho).1
    have hf : Dof listed i = false := by
      unfold Dof
      rw [Array.getD_eq_getD_getElem?, Array.getElem?_eq_getElem (by omega)] at h1 ⊢
      exact h1
    obtain ⟨r, hr, rfl⟩ : ∃ r ∈ g.rs, r.i = i := by
      rcases cover i hlt with h2 | ⟨r, hr, hp, hb⟩
      · exact h2
      · have := hbef _ hb
        rw [hnp r hr hp] at this; cases this
    obtain ⟨ho', hd, hcase⟩ := hrec r hr
    rw [ho] at ho'; cases ho'
    have hgv : GV E.gs V := h.gv.mono (Inv.le h hI)
    have hlook : ∀ t ∈ r.o.looksAt ops, (tmpE r.T0 t).is V (a.tmps.getD t undef) := fun t ht => by
      rw [← h.tmp_met hD hr hbef hf ht]; exact hI.tmps t
    have hVborn : ∀ b, born r.m0 r.m1 b → V b = none := fun b hb => by
      rw [hI.keeps b (fun ⟨q, hq, hq1, hq2⟩ => by rw [h.born_one hr hq hb hq2] at hf; rw [hq1] at hf; cases hf)]
      exact h.free b (h.born_lt hr hb)
    have hsatr : Sat V (bit r.m1.T) r.m0 w := by
      have hwf := ((h.chain.wf h.env h.wf).2 r hr).1
      have conv : ∀ b, bit r.m1.T b → ∀ k, r.m0.get b = some k → g.inD (Dof listed) b ∧ memD g.rs (Dof listed) (g.m.get b) b = some k := fun b hb k hk => by
        have hnb : ¬ born r.m0 r.m1 b := fun hh => by rw [hwf b hh.1] at hk; cases hk
        exact ⟨(h.touch_in hD hr hbef hf hb hnb).1, by rw [h.mem_met hD hr hbef hf hb]; exact hk⟩
      exact ⟨fun b hb k hk => hI.holds b (conv b hb k hk).1 k (conv b hb k hk).2, fun b c hb hc hbc k l p q hk hl hp hq => hI.apart b c (conv b hb k hk).1 (conv c hc l hl).1 hbc k l p q (conv b hb k hk).2 (conv c hc l hl).2 hp hq⟩
    unfold wpOp
    simp only [ho]
    rcases hcase with ⟨_, hw, hop⟩ | ⟨_, hnpan, hw, hx, hm⟩
    · have hwant := want_at (ops := ops) hI.size hlook hw
      rw [if_pos hwant]
      refine .inl ?_
      refine opR_wp h.env hop (S := bit r.m1.T) ((h.chain.wf h.env h.wf).2 r hr).1 hgv (fun y hy => ?_) hsatr (fun b hb => hb) (fun b hb => hVborn b hb) fun V' w' v hst hv => ?_
      · cases y with
        | tmp t => exact hlook t (by unfold Oper.looksAt; rw [List.mem_append]; exact .inl (List.mem_filterMap.2 ⟨_, Array.mem_toList_iff.2 hy, rfl⟩))
        | const v => rfl
        | func f => rfl
        | global gl =>
          show (if E.gs gl then AV.ptr gl 0 else .lit (.pointer (some ⟨gl, 0, none⟩))).is V (.pointer (some ⟨gl, 0, none⟩))
          split
          · rename_i hg
            obtain ⟨n, hn⟩ := hgv gl hg
            exact ⟨(gl, n), hn, rfl⟩
          · rfl
      · have hle : V.le V' := hst.le (fun b hb => hVborn b hb)
        have hI' := hI.add h hD hr hbef hf hd hst hv hle
        cases hpan : r.pan with
        | true =>
          simp only [if_true]
          refine hp r hr hpan V' a w' v (hI'.stepP h (fun q => q.i = r.i ∨ bit ((Region.before ops).getD r.i 0) q.i) (fun q hq hm => ?_) (fun q hq hm => ?_) hmn (hmp r hr hpan)) ((Inv.le h hI).trans hle) hI.size (fun t ht => ?_) hI.dfr hv
          · unfold addD
            rw [Bool.or_eq_true, decide_eq_true_eq]
            rcases hm with hm | hm
            · exact .inr hm
            · exact .inl (hbef _ hm)
          · rw [not_or] at hm
            exact quiet r hr hpan q hq hm.1 hm.2
          · have := hI.tmps t
            rw [show tmD g.rs (Dof listed) (tmpE g.T0 t) t = tmpE g.T0 t from fold_none _ _ _ _ (fun q hq x => ht (by
              unfold dsts
              exact List.mem_filterMap.2 ⟨q.o, by
                have := (hrec q hq).1
                rw [← Array.getElem?_toList] at this
                exact List.mem_of_getElem? this, x.2⟩))] at this
            exact this.mono hle
        | false =>
          simp only [Bool.false_eq_true, if_false]
          refine ih _ V' _ w' (by simp [hs]) ?_ (by rw [Dof_set (by omega)]; exact hI') (by rw [Dof_set (by omega)]; exact RgOk.closed_add hD hbef) (fun q hq hqp => ?_)
          · have := left_set (n := ops.size) (by omega) hlt hf
            omega
          · rw [Dof_set (by omega)]
            unfold addD
            rw [hnp q hq hqp, Bool.false_or, decide_eq_false]
            intro e
            rw [h.inj hq hr e] at hqp
            rw [hpan] at hqp; cases hqp
    · have hwant := want_at (ops := ops) hI.size hlook hw
      rw [if_neg (by rw [hwant]; simp)]
      have hst : Step (bit r.m1.T) V r.m0 w V r.m1 w := Step.of_same hsatr hm
      have hI' := hI.add (v := undef) h hD hr hbef hf hd hst (by rw [hx]; exact undef_is V) (Vl.le.refl V)
      refine ih _ V _ w (by simp [hs]) ?_ (by rw [Dof_set (by omega)]; exact hI') (by rw [Dof_set (by omega)]; exact RgOk.closed_add hD hbef) (fun q hq hqp => ?_)
      · have := left_set (n := ops.size) (by omega) hlt hf
        omega
      · rw [Dof_set (by omega)]
        unfold addD
        rw [hnp q hq hqp, Bool.false_or, decide_eq_false]
        intro e
        rw [h.inj hq hr e] at hqp
        rw [hnpan] at hqp; cases hqp
end
end Go.Proofs.Ytmomdfmilelilaa.Ev
