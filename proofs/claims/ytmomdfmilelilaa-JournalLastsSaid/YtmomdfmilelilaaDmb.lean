/-
  A view of files by blocks, and what takes a change back; the chain of states that loose changes lead back to.
-/
import Derived.Test.YtmomdfmilelilaaDma
import Derived.Test.YtmomdfmilelilaaDka
namespace Go.Proofs.Ytmomdfmilelilaa
set_option linter.unusedVariables false
structure Vw where
  ix : ByteArray → Option Nat
  zs : Nat → List Nat
  nm : Nat → ByteArray
def Vw.set (V : Vw) (s : ByteArray) (x : Option Nat) : Vw := { V with ix := fun t => if t = s then x else V.ix t }
def Vw.bytes (V : Vw) (b : Nat) (z : List Nat) : Vw := { V with zs := fun c => if c = b then z else V.zs c }
def Vw.name (V : Vw) (b : Nat) (s : ByteArray) : Vw := { V with nm := fun c => if c = b then s else V.nm c }
def Vw.undo (V : Vw) (c : Chg) (stay : Nat) : Vw :=
  if c.kind = 0 then V.set (V.nm c.file) none
  else if c.kind = 1 then V.bytes c.file ((V.zs c.file).take (c.size.toNat + stay))
  else if c.kind = 2 then V.set (V.nm c.file) (some c.file)
  else match c.repl with
    | none => ((V.set (V.nm c.file) none).name c.file c.name).set c.name (some c.file)
    | some r => (((V.set (V.nm c.file) none).name c.file c.name).set c.name (some c.file)).set (V.nm r) (some r)
/-- files by blocks are files by names -/
structure Ab (V : Vw) (l : Fls) : Prop where
  look : ∀ s, (V.ix s).map V.zs = lookF l s
  nm : ∀ s b, V.ix s = some b → V.nm b = s
  srt : Srt l
theorem Ab.has {V : Vw} {l : Fls} (h : Ab V l) {s : ByteArray} {b : Nat} (hb : V.ix s = Option.some b) : lookF l s = Option.some (V.zs b) := by
  rw [← h.look, hb]; rfl
theorem Ab.lacks {V : Vw} {l : Fls} (h : Ab V l) {s : ByteArray} (hb : V.ix s = Option.none) : lookF l s = Option.none := by
  rw [← h.look, hb]; rfl
theorem Ab.inj {V : Vw} {l : Fls} (h : Ab V l) {s t : ByteArray} {b : Nat} (hs : V.ix s = some b) (ht : V.ix t = some b) : s = t := (h.nm s b hs).symm.trans (h.nm t b ht)
/-- what a loose change tells of the files behind it -/
structure Fit (V : Vw) (c : Chg) (o : DCh) : Prop where
  kind : c.kind = (o.kind : Int)
  k3 : o.kind ≤ 3
  k0 : o.kind = 0 → V.ix o.a = some c.file
  k1 : o.kind = 1 → V.ix o.a = some c.file ∧ 0 ≤ c.size ∧ c.size ≤ 1000000000 ∧ c.size.toNat ≤ (V.zs c.file).length ∧ (V.zs c.file).drop c.size.toNat = o.p ∧ o.p.length ≤ 1048576
  k2 : o.kind = 2 → V.nm c.file = o.a ∧ V.ix o.a = .none
  k3a : o.kind = 3 → V.ix o.b = some c.file ∧ c.name = o.a ∧ (o.a ≠ o.b → V.ix o.a = .none) ∧ (c.repl = .none ∨ ∃ r, c.repl = some r ∧ r ≠ c.file ∧ V.nm r = o.b ∧ o.a ≠ o.b)
/-- the states to which loose changes, the last one first, lead back -/
inductive Chn (R : Nat) : Vw → List Chg → Fls → List DCh → Fls → Prop
  | nil {V : Vw} {l : Fls} : Ab V l → usedF l ≤ R → Chn R V [] l [] l
  | cons {V : Vw} {c : Chg} {cs : List Chg} {l l' : Fls} {o : DCh} {os : List DCh} {sure : Fls} : Ab V l → usedF l ≤ R → l = doF l' o → Fit V c o → Chn R (V.undo c 0) cs l' os sure → Chn R V (c :: cs) l (o :: os) sure
theorem Chn.ab {R : Nat} {V : Vw} {cs : List Chg} {l : Fls} {os : List DCh} {sure : Fls} (h : Chn R V cs l os sure) : Ab V l := by cases h <;> assumption
theorem Chn.used {R : Nat} {V : Vw} {cs : List Chg} {l : Fls} {os : List DCh} {sure : Fls} (h : Chn R V cs l os sure) : usedF l ≤ R := by cases h <;> assumption
theorem Chn.len {R : Nat} {V : Vw} {cs : List Chg} {l : Fls} {os : List DCh} {sure : Fls} (h : Chn R V cs l os sure) : cs.length = os.length := by
  induction h with
  | nil => rfl
  | cons _ _ _ _ _ ih => simp [ih]
/-- the changes done again, from the files that last -/
theorem Chn.fold {R : Nat} {V : Vw} {cs : List Chg} {l : Fls} {os : List DCh} {sure : Fls} (h : Chn R V cs l os sure) : l = os.foldr (fun o l => doF l o) sure := by
  induction h with
  | nil => rfl
  | cons _ _ h1 _ _ ih => rw [List.foldr_cons, ← ih]; exact h1
theorem Vw.ext3 {V W : Vw} (h1 : V.ix = W.ix) (h2 : V.zs = W.zs) (h3 : V.nm = W.nm) : V = W := by cases V; cases W; cases h1; cases h2; cases h3; rfl
/-- two views that say the same of the blocks in X -/
structure Agr (X : Nat → Prop) (V W : Vw) : Prop where
  ix : V.ix = W.ix
  zs : ∀ b, X b → V.zs b = W.zs b
  nm : ∀ b, X b → V.nm b = W.nm b
  ran : ∀ s b, V.ix s = some b → X b
def inX (X : Nat → Prop) (c : Chg) : Prop := X c.file ∧ ∀ r, c.repl = some r → X r
theorem Agr.set {X : Nat → Prop} {V W : Vw} (h : Agr X V W) (s : ByteArray) (x : Option Nat) (hx : ∀ b, x = some b → X b) : Agr X (V.set s x) (W.set s x) :=
  ⟨by unfold Vw.set; simp only [h.ix], h.zs, h.nm, fun t b hb => by
    have hb' : (if t = s then x else V.ix t) = some b := hb
    split at hb'
    · exact hx b hb'
    · exact h.ran t b hb'⟩
theorem Agr.name {X : Nat → Prop} {V W : Vw} (h : Agr X V W) (c : Nat) (s : ByteArray) : Agr X (V.name c s) (W.name c s) :=
  ⟨h.ix, h.zs, fun b hb => by
    show (if b = c then s else V.nm b) = (if b = c then s else W.nm b)
    rw [h.nm b hb], h.ran⟩
theorem Agr.undo {X : Nat → Prop} {V W : Vw} (h : Agr X V W) {c : Chg} (hc : inX X c) (k : Nat) : Agr X (V.undo c k) (W.undo c k) := by
  unfold Vw.undo
  have hn := h.nm _ hc.1
  split
  · rw [hn]; exact h.set _ _ fun b e => by cases e
  · split
    · refine ⟨h.ix, fun b hb => ?_, h.nm, h.ran⟩
      show (if b = c.file then _ else V.zs b) = (if b = c.file then _ else W.zs b)
      rw [h.zs b hb, h.zs _ hc.1]
    · split
      · rw [hn]; exact h.set _ _ fun b e => by cases e; exact hc.1
      · split
        · rw [hn]; exact ((h.set _ _ fun b e => by cases e).name _ _).set _ _ fun b e => by cases e; exact hc.1
        · rename_i r hr
          rw [hn, h.nm r (hc.2 r hr)]
          exact (((h.set _ _ fun b e => by cases e).name _ _).set _ _ fun b e => by cases e; exact hc.1).set _ _ fun b e => by cases e; exact hc.2 r hr
theorem Agr.ab {X : Nat → Prop} {V W : Vw} (h : Agr X V W) {l : Fls} (ha : Ab V l) : Ab W l :=
  ⟨fun s => by
    rw [← ha.look, ← h.ix]
    cases e : V.ix s with
    | none => rfl
    | some b => simp only [Option.map_some]; rw [h.zs b (h.ran s b e)], fun s b hb => by
    rw [← h.ix] at hb
    rw [← h.nm b (h.ran s b hb)]
    exact ha.nm s b hb, ha.srt⟩
theorem Agr.fit {X : Nat → Prop} {V W : Vw} (h : Agr X V W) {c : Chg} (hc : inX X c) {o : DCh} (hf : Fit V c o) : Fit W c o := by
  have hz := h.zs _ hc.1
  have hn := h.nm _ hc.1
  refine ⟨hf.kind, hf.k3, fun e => by rw [← h.ix]; exact hf.k0 e, fun e => ?_, fun e => ?_, fun e => ?_⟩
  · rw [← h.ix, ← hz]; exact hf.k1 e
  · rw [← h.ix, ← hn]; exact hf.k2 e
  · obtain ⟨h1, h2, h3, h4⟩ := hf.k3a e
    rw [← h.ix]
    refine ⟨h1, h2, h3, ?_⟩
    rcases h4 with h4 | ⟨r, h4, h5, h6, h7⟩
    · exact .inl h4
    · exact .inr ⟨r, h4, h5, by rw [← h.nm r (hc.2 r h4)]; exact h6, h7⟩
theorem Chn.agr {R : Nat} {X : Nat → Prop} {V : Vw} {cs : List Chg} {l : Fls} {os : List DCh} {sure : Fls} (h : Chn R V cs l os sure) : ∀ {W : Vw}, Agr X V W → (∀ c ∈ cs, inX X c) → Chn R W cs l os sure := by
  induction h with
  | nil h1 h2 => intro W ha _; exact .nil (ha.ab h1) h2
  | cons h1 h2 h3 h4 _ ih =>
    intro W ha hc
    have hc0 := hc _ List.mem_cons_self
    exact .cons (ha.ab h1) h2 h3 (ha.fit hc0 h4) (ih (ha.undo hc0 0) fun c hm => hc c (List.mem_cons_of_mem _ hm))
/-- an Append that is taken back in part -/
theorem Ab.part {V : Vw} {c : Chg} {o : DCh} {l l' : Fls} (h : Ab V l) (hd : l = doF l' o) (hf : Fit V c o) (h' : Ab (V.undo c 0) l') (hk : o.kind = 1) (st : Nat) : Ab (V.undo c st) (doF l' { o with p := o.p.take st }) := by
  obtain ⟨h1, h2, h2', h3, h4, h5⟩ := hf.k1 hk
  have hck : c.kind = 1 := by rw [hf.kind, hk]; rfl
  have e0 : ∀ k, V.undo c k = V.bytes c.file ((V.zs c.file).take (c.size.toNat + k)) := fun k => by
    unfold Vw.undo
    rw [if_neg (by omega), if_pos hck]
  rw [e0] at h' ⊢
  have hl' : lookF l' o.a = some ((V.zs c.file).take c.size.toNat) := by
    rw [h'.has (s := o.a) (b := c.file) h1]
    show some (if c.file = c.file then _ else _) = _
    rw [if_pos rfl, Nat.add_zero]
  have hs : Srt (withoutF l' o.a) := srt_without h'.srt
  have hn : lookF (withoutF l' o.a) o.a = .none := by rw [look_without, if_pos rfl]
  have e1 : doF l' { o with p := o.p.take st } = withF (withoutF l' o.a) (o.a, (V.zs c.file).take c.size.toNat ++ o.p.take st) := by
    unfold doF
    rw [if_neg (by show ¬ o.kind = 0; omega), if_pos (by exact hk)]
    show withF (withoutF l' o.a) (o.a, (lookF l' o.a).getD [] ++ o.p.take st) = _
    rw [hl']
    rfl
  rw [e1]
  refine ⟨fun s => ?_, fun s b hb => h.nm s b hb, srt_with hs fun x hx => (mem_withoutF.1 hx).2⟩
  rw [look_with s hn, look_without]
  by_cases e : s = o.a
  · rw [if_pos e, e]
    show (V.ix o.a).map _ = _
    rw [h1]
    show some (if c.file = c.file then _ else _) = _
    rw [if_pos rfl, ← h4, ← List.take_add]
  · rw [if_neg e, if_neg e]
    have := h'.look s
    show (V.ix s).map _ = _
    rw [← this]
    show (V.ix s).map _ = (V.ix s).map _
    cases ev : V.ix s with
    | none => rfl
    | some b =>
      have hb : b ≠ c.file := fun k => e (h.inj ev (by rw [k]; exact h1))
      simp only [Option.map_some, Vw.bytes, if_neg hb]
/-- forward: Create -/
theorem Ab.create {V : Vw} {l : Fls} (h : Ab V l) (s : ByteArray) (b : Nat) (hs : V.ix s = .none) (hb : ∀ t c, V.ix t = some c → c ≠ b) : Ab (((V.bytes b []).name b s).set s (some b)) (doF l ⟨0, s, ⟨#[]⟩, []⟩) := by
  have hn := h.lacks hs
  refine ⟨fun t => ?_, fun t c hc => ?_, ?_⟩
  · show (if t = s then some b else V.ix t).map (fun c => if c = b then [] else V.zs c) = _
    rw [doF0, look_with t hn]
    by_cases e : t = s
    · rw [if_pos e, if_pos e]; simp
    · rw [if_neg e, if_neg e, ← h.look]
      cases ev : V.ix t with
      | none => rfl
      | some c =>
        simp only [Option.map_some]
        rw [if_neg (hb t c ev)]
  · have hc' : (if t = s then some b else V.ix t) = some c := hc
    show (if c = b then s else V.nm c) = t
    split at hc'
    · rename_i e; cases hc'; rw [if_pos rfl, e]
    · rw [if_neg (hb t c hc')]; exact h.nm t c hc'
  · exact srt_with h.srt (lookF_none hn)
theorem Ab.append {V : Vw} {l : Fls} (h : Ab V l) (s : ByteArray) (b : Nat) (p : List Nat) (hs : V.ix s = some b) : Ab (V.bytes b (V.zs b ++ p)) (doF l ⟨1, s, ⟨#[]⟩, p⟩) := by
  have hn : lookF (withoutF l s) s = .none := by rw [look_without, if_pos rfl]
  have hd : doF l ⟨1, s, ⟨#[]⟩, p⟩ = withF (withoutF l s) (s, V.zs b ++ p) := by
    rw [doF1, h.has hs]
    rfl
  rw [hd]
  refine ⟨fun t => ?_, fun t c hc => h.nm t c hc, srt_with (srt_without h.srt) fun x hx => (mem_withoutF.1 hx).2⟩
  rw [look_with t hn, look_without]
  show (V.ix t).map (fun c => if c = b then _ else V.zs c) = _
  by_cases e : t = s
  · rw [if_pos e, e, hs]; simp
  · rw [if_neg e, if_neg e, ← h.look]
    cases ev : V.ix t with
    | none => rfl
    | some c =>
      simp only [Option.map_some]
      rw [if_neg (fun k => e (h.inj ev (by rw [k]; exact hs)))]
theorem Ab.remove {V : Vw} {l : Fls} (h : Ab V l) (s : ByteArray) : Ab (V.set s .none) (withoutF l s) := by
  refine ⟨fun t => ?_, fun t c hc => ?_, srt_without h.srt⟩
  · rw [look_without]
    show (if t = s then .none else V.ix t).map V.zs = _
    by_cases e : t = s
    · rw [if_pos e, if_pos e]; rfl
    · rw [if_neg e, if_neg e, h.look]
  · have hc' : (if t = s then .none else V.ix t) = some c := hc
    split at hc'
    · cases hc'
    · exact h.nm t c hc'
theorem Ab.rename {V : Vw} {l : Fls} (h : Ab V l) (s t : ByteArray) (b : Nat) (hs : V.ix s = some b) : Ab (((V.set s .none).name b t).set t (some b)) (doF l ⟨3, s, t, []⟩) := by
  have hn : lookF (withoutF (withoutF l s) t) t = .none := by rw [look_without, if_pos rfl]
  have hd : doF l ⟨3, s, t, []⟩ = withF (withoutF (withoutF l s) t) (t, V.zs b) := by
    rw [doF3, h.has hs]
    rfl
  rw [hd]
  refine ⟨fun x => ?_, fun x c hc => ?_, srt_with (srt_without (srt_without h.srt)) fun x hx => (mem_withoutF.1 hx).2⟩
  · rw [look_with x hn, look_without, look_without]
    show (if x = t then some b else if x = s then .none else V.ix x).map V.zs = _
    by_cases e : x = t
    · rw [if_pos e, if_pos e]; rfl
    · rw [if_neg e, if_neg e, if_neg e]
      by_cases k : x = s
      · rw [if_pos k, if_pos k]; rfl
      · rw [if_neg k, if_neg k, h.look]
  · have hc' : (if x = t then some b else if x = s then .none else V.ix x) = some c := hc
    show (if c = b then t else V.nm c) = x
    split at hc'
    · rename_i e; cases hc'; rw [if_pos rfl, e]
    · split at hc'
      · cases hc'
      · rename_i e k
        rw [if_neg fun j => k (h.inj hc' (by rw [j]; exact hs))]
        exact h.nm x c hc'
/-- forward, with the change that takes it back -/
theorem Chn.create {R : Nat} {X : Nat → Prop} {V : Vw} {cs : List Chg} {l : Fls} {os : List DCh} {sure : Fls} (h : Chn R V cs l os sure) (hc : ∀ c ∈ cs, inX X c) (hr : ∀ s b, V.ix s = some b → X b) (s : ByteArray) (b : Nat) (hs : V.ix s = .none) (hb : ¬ X b) (z : Int) (n : ByteArray) (r : Option Nat) :
    Chn R (((V.bytes b []).name b s).set s (some b)) (⟨0, b, z, n, r⟩ :: cs) (doF l ⟨0, s, ⟨#[]⟩, []⟩) (⟨0, s, ⟨#[]⟩, []⟩ :: os) sure := by
  have hne : ∀ c, X c → c ≠ b := fun c hx e => hb (by rw [← e]; exact hx)
  refine .cons (h.ab.create s b hs fun t c k => hne c (hr t c k)) ?_ rfl ⟨rfl, Nat.zero_le _, fun _ => ?_, fun e => (by cases e), fun e => (by cases e), fun e => (by cases e)⟩ (h.agr (X := X) ⟨?_, fun c hx => ?_, fun c hx => ?_, hr⟩ hc)
  · rw [doF0, used_with]
    exact h.used
  · show (if s = s then some b else _) = _
    rw [if_pos rfl]
  · unfold Vw.undo
    rw [if_pos rfl]
    funext t
    show V.ix t = if t = (if b = b then s else V.nm b) then .none else if t = s then some b else V.ix t
    rw [if_pos rfl]
    by_cases e : t = s
    · rw [if_pos e, e]; exact hs
    · rw [if_neg e, if_neg e]
  · unfold Vw.undo
    rw [if_pos rfl]
    show V.zs c = if c = b then [] else V.zs c
    rw [if_neg (hne c hx)]
  · unfold Vw.undo
    rw [if_pos rfl]
    show V.nm c = if c = b then s else V.nm c
    rw [if_neg (hne c hx)]
theorem Chn.append {R : Nat} {V : Vw} {cs : List Chg} {l : Fls} {os : List DCh} {sure : Fls} (h : Chn R V cs l os sure) (s : ByteArray) (b : Nat) (p : List Nat) (hs : V.ix s = some b) (hR : usedF l + p.length ≤ R) (hR2 : R ≤ 1000000000) (hp : p.length ≤ 1048576) (n : ByteArray) (r : Option Nat) :
    Chn R (V.bytes b (V.zs b ++ p)) (⟨1, b, ((V.zs b).length : Int), n, r⟩ :: cs) (doF l ⟨1, s, ⟨#[]⟩, p⟩) (⟨1, s, ⟨#[]⟩, p⟩ :: os) sure := by
  have hu := used_without (n := s) h.ab.srt
  rw [h.ab.has hs] at hu
  simp only [Option.getD_some] at hu
  have hz : (V.bytes b (V.zs b ++ p)).zs b = V.zs b ++ p := by show (if b = b then _ else _) = _; rw [if_pos rfl]
  refine .cons (h.ab.append s b p hs) ?_ rfl ⟨rfl, by show 1 ≤ 3; omega, fun e => (by cases e), fun _ => ⟨hs, by show (0 : Int) ≤ ((V.zs b).length : Int); omega, by show ((V.zs b).length : Int) ≤ _; omega, ?_, ?_, hp⟩, fun e => (by cases e), fun e => (by cases e)⟩ ?_
  · have hd : doF l ⟨1, s, ⟨#[]⟩, p⟩ = withF (withoutF l s) (s, V.zs b ++ p) := by
      rw [doF1, h.ab.has hs]
      rfl
    rw [hd, used_with, List.length_append]
    omega
  · rw [hz]
    show ((V.zs b).length : Int).toNat ≤ _
    rw [List.length_append]; omega
  · rw [hz]
    show List.drop ((V.zs b).length : Int).toNat _ = _
    rw [Int.toNat_natCast, List.drop_left]
  · have e : (V.bytes b (V.zs b ++ p)).undo ⟨1, b, ((V.zs b).length : Int), n, r⟩ 0 = V := by
      unfold Vw.undo
      rw [if_neg (by show ¬ (1 : Int) = 0; decide), if_pos rfl]
      refine Vw.ext3 rfl ?_ rfl
      funext c
      show (if c = b then List.take (((V.zs b).length : Int).toNat + 0) (if b = b then V.zs b ++ p else V.zs b) else if c = b then _ else V.zs c) = _
      rw [if_pos rfl, Int.toNat_natCast, Nat.add_zero, List.take_left]
      by_cases e : c = b
      · rw [if_pos e, e]
      · rw [if_neg e, if_neg e]
    rw [e]
    exact h
theorem Chn.remove {R : Nat} {V : Vw} {cs : List Chg} {l : Fls} {os : List DCh} {sure : Fls} (h : Chn R V cs l os sure) (s : ByteArray) (b : Nat) (hs : V.ix s = some b) (z : Int) (n : ByteArray) (r : Option Nat) :
    Chn R (V.set s .none) (⟨2, b, z, n, r⟩ :: cs) (doF l ⟨2, s, ⟨#[]⟩, []⟩) (⟨2, s, ⟨#[]⟩, []⟩ :: os) sure := by
  have hnm := h.ab.nm s b hs
  have hu := used_without (n := s) h.ab.srt
  have h0 := h.used
  refine .cons (by rw [doF2]; exact h.ab.remove s) ?_ rfl ⟨rfl, by show 2 ≤ 3; omega, fun e => (by cases e), fun e => (by cases e), fun _ => ⟨hnm, ?_⟩, fun e => (by cases e)⟩ ?_
  · rw [doF2]
    omega
  · show (if s = s then _ else _) = _
    rw [if_pos rfl]
  · have e : (V.set s .none).undo ⟨2, b, z, n, r⟩ 0 = V := by
      unfold Vw.undo
      rw [if_neg (by show ¬ (2 : Int) = 0; decide), if_neg (by show ¬ (2 : Int) = 1; decide), if_pos rfl]
      refine Vw.ext3 ?_ rfl rfl
      funext t
      show (if t = V.nm b then some b else if t = s then .none else V.ix t) = _
      rw [hnm]
      by_cases e : t = s
      · rw [if_pos e, e, hs]
      · rw [if_neg e, if_neg e]
    rw [e]
    exact h
theorem Chn.rename {R : Nat} {V : Vw} {cs : List Chg} {l : Fls} {os : List DCh} {sure : Fls} (h : Chn R V cs l os sure) (s t : ByteArray) (b : Nat) (hs : V.ix s = some b) (z : Int) :
    Chn R (((V.set s .none).name b t).set t (some b)) (⟨3, b, z, s, (V.set s .none).ix t⟩ :: cs) (doF l ⟨3, s, t, []⟩) (⟨3, s, t, []⟩ :: os) sure := by
  have hnm := h.ab.nm s b hs
  have hd : doF l ⟨3, s, t, []⟩ = withF (withoutF (withoutF l s) t) (t, V.zs b) := by
    rw [doF3, h.ab.has hs]
    rfl
  have hu := used_without (n := s) h.ab.srt
  have hu2 := used_without (n := t) (srt_without (n := s) h.ab.srt)
  have h0 := h.used
  rw [h.ab.has hs] at hu
  simp only [Option.getD_some] at hu
  have at1 : (V.set s .none).ix t = if t = s then .none else V.ix t := rfl
  refine .cons (h.ab.rename s t b hs) ?_ rfl ⟨rfl, Nat.le_refl _, fun e => (by cases e), fun e => (by cases e), fun e => (by cases e), fun _ => ⟨?_, rfl, fun hne => ?_, ?_⟩⟩ ?_
  · rw [hd, used_with]
    show usedF (withoutF (withoutF l s) t) + (V.zs b).length ≤ R
    omega
  · show (if t = t then _ else _) = _
    rw [if_pos rfl]
  · show (if s = t then _ else if s = s then _ else _) = _
    rw [if_neg hne, if_pos rfl]
  · show (V.set s .none).ix t = .none ∨ _
    rw [at1]
    by_cases e : t = s
    · rw [if_pos e]; exact .inl rfl
    · rw [if_neg e]
      cases ev : V.ix t with
      | none => exact .inl rfl
      | some r =>
        have hrb : r ≠ b := fun k => e (h.ab.inj ev (by rw [k]; exact hs))
        refine .inr ⟨r, rfl, hrb, ?_, fun k => e k.symm⟩
        show (if r = b then t else V.nm r) = t
        rw [if_neg hrb]
        exact h.ab.nm t r ev
  · have e : (((V.set s .none).name b t).set t (some b)).undo ⟨3, b, z, s, (V.set s .none).ix t⟩ 0 = V := by
      unfold Vw.undo
      rw [if_neg (by show ¬ (3 : Int) = 0; decide), if_neg (by show ¬ (3 : Int) = 1; decide), if_neg (by show ¬ (3 : Int) = 2; decide)]
      have nb : (((V.set s .none).name b t).set t (some b)).nm b = t := by show (if b = b then t else V.nm b) = t; rw [if_pos rfl]
      have nms : (fun c => if c = b then s else if c = b then t else V.nm c) = V.nm := by
        funext c
        by_cases e : c = b
        · rw [if_pos e, e, hnm]
        · rw [if_neg e, if_neg e]
      simp only [nb]
      split
      · rename_i hr
        have hr' : (if t = s then .none else V.ix t) = .none := hr
        refine Vw.ext3 ?_ rfl nms
        funext x
        show (if x = s then some b else if x = t then .none else if x = t then some b else if x = s then .none else V.ix x) = _
        by_cases e : x = s
        · rw [if_pos e, e, hs]
        · rw [if_neg e, if_neg e]
          by_cases k : x = t
          · rw [if_pos k, k]
            rw [if_neg (by rw [← k]; exact e)] at hr'
            exact hr'.symm
          · rw [if_neg k, if_neg k]
      · rename_i r hr
        have hr' : (if t = s then .none else V.ix t) = some r := hr
        have hts : t ≠ s := fun k => by rw [if_pos k] at hr'; cases hr'
        rw [if_neg hts] at hr'
        have hrb : r ≠ b := fun k => hts (h.ab.inj hr' (by rw [k]; exact hs))
        have nr : (((V.set s .none).name b t).set t (some b)).nm r = t := by
          show (if r = b then t else V.nm r) = t
          rw [if_neg hrb]
          exact h.ab.nm t r hr'
        rw [nr]
        refine Vw.ext3 ?_ rfl nms
        funext x
        show (if x = t then some r else if x = s then some b else if x = t then .none else if x = t then some b else if x = s then .none else V.ix x) = _
        by_cases k : x = t
        · rw [if_pos k, k, hr']
        · rw [if_neg k]
          by_cases e : x = s
          · rw [if_pos e, e, hs]
          · rw [if_neg e, if_neg k, if_neg k, if_neg e]
    rw [e]
    exact h
end Go.Proofs.Ytmomdfmilelilaa
