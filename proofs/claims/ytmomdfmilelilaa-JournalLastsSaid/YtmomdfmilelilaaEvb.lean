/-
  A run of a closed call: the other operations, maps, and each operation by its law.
-/
import Derived.Laws.BytesArg
import Derived.Laws.BytesString
import Derived.Laws.Build
import Derived.Laws.MakeOwn
import Derived.Test.YtmomdfmilelilaaEva
namespace Go.Proofs.Ytmomdfmilelilaa.Ev
set_option linter.unusedVariables false
section
variable {P : Program}
/-- what a computation comes to that asks nothing of memory -/
inductive PR (α : Type) where
  | ok (a : α)
  | pan (v : Value)
  | no
def pureRun {α : Type} (P : Program) : Sem α → PR α
  | .pure a => .ok a
  | .program k => pureRun P (k P)
  | .mark _ k => pureRun P k
  | .halt (.panic v) => .pan v
  | _ => .no
theorem pure_ok {α : Type} (w : World) : ∀ (s : Sem α) (a : α), pureRun P s = .ok a → s.run P w = .ok a w
  | .pure _, _, h => by cases h; rfl
  | .program k, a, h => pure_ok w (k P) a h
  | .mark _ k, a, h => pure_ok w k a h
  | .halt x, a, h => by cases x <;> cases h
  | .load .., _, h | .store .., _, h | .new .., _, h | .shape .., _, h | .freeze .., _, h | .frozen .., _, h | .getObj .., _, h | .setObj .., _, h | .choose .., _, h | .sys .., _, h => by cases h
theorem pure_pan {α : Type} (w : World) : ∀ (s : Sem α) (v : Value), pureRun P s = .pan v → s.run P w = .halt (.panic v) w
  | .pure _, _, h => by cases h
  | .program k, a, h => pure_pan w (k P) a h
  | .mark _ k, a, h => pure_pan w k a h
  | .halt x, a, h => by cases x <;> first | (cases h; done) | (cases h; rfl)
  | .load .., _, h | .store .., _, h | .new .., _, h | .shape .., _, h | .freeze .., _, h | .frozen .., _, h | .getObj .., _, h | .setObj .., _, h | .choose .., _, h | .sys .., _, h => by cases h
/-- a known value, or nothing of worth -/
def AV.known : AV → Value
  | .lit v => v
  | _ => undef
def AV.isLit : AV → Bool
  | .lit _ => true
  | _ => false
theorem AV.known_is {V : Vl} {x : AV} {v : Value} (h : x.isLit = true) (k : x.is V v) : v = x.known := by
  cases x <;> first | (cases h; done) | exact k
def isSelect : Op → Bool
  | .select _ _ => true
  | _ => false
def pureE (P : Program) (e : Operand → AV) (o : Oper) : PR Next :=
  if isSelect o.op = false ∧ o.op.operands.toList.all (fun x => (e x).isLit) = true then pureRun P (execOp (fun x => (e x).known) o) else .no
theorem pureE_eq {V : Vl} {e : Operand → AV} {ρ : Operand → Value} {o : Oper} (h : ∀ x, (e x).is V (ρ x)) {r : PR Next} (hr : pureE P e o = r) (hn : r ≠ .no) : pureRun P (execOp ρ o) = r := by
  unfold pureE at hr
  split at hr
  · rename_i hc
    obtain ⟨h1, h2⟩ := hc
    rw [← hr]
    congr 1
    refine execOp_congr o (fun cs b hs => by rw [hs] at h1; cases h1) fun x hx => ?_
    rw [List.all_eq_true] at h2
    exact AV.known_is (h2 x (Array.mem_toList_iff.2 hx)) (h x)
  · exact absurd hr.symm hn
/-- len -/
def lenE (P : Program) (t : TypeId) (x : AV) (m : Mem) : Option (AV × Mem) :=
  match P.underlying t, x with
  | some (.slice _), .sl _ _ len _ _ => some (.lit (goInt len), m)
  | some (.map _ _), .map b => match m.get b with
    | some (.map es _) => some (.lit (goInt es.length), m.touch b)
    | _ => none
  | _, _ => none
theorem entries_length {V : Vl} : ∀ {es : List (Value × AV × Nat)} {xs : List MapEntry}, entriesAre V es xs → xs.length = es.length
  | [], _, h => by subst h; rfl
  | _ :: _, _, h => by obtain ⟨y, ys, rfl, _, h2⟩ := h; simp [entries_length h2]
theorem len_ran {S : Nat → Prop} {V : Vl} {m m' : Mem} {w : World} (h : Sat V S m w) {t ty : TypeId} {x y : AV} {v : Value} (hx : x.is V v) (hS : ∀ b, bit m'.T b → S b) (he : lenE P t x m = some (y, m')) :
    Ran P S V m w (Builtin.len_ #[t] ty #[v]) y m' := by
  unfold lenE at he
  split at he
  · rename_i e b off len s cap hu
    cases he
    obtain ⟨p, o', c, hp, rfl, _⟩ := hx
    refine Ran.same h (v := goInt len) ?_ rfl
    simp [Builtin.len_, run_underlying hu]
  · rename_i k e b hu
    obtain ⟨p, hp, rfl⟩ := hx
    split at he
    · rename_i es clock hb
      cases he
      obtain ⟨p2, E, hp2, hh, hE⟩ := h.holds b (hS b ((bit_or _ _ _).2 (.inr rfl))) _ hb
      rw [hp] at hp2
      cases hp2
      refine ⟨goInt es.length, w, V, ?_, rfl, Step.touch h b⟩
      have hl := entries_length hE
      simp only [Array.length_toList] at hl
      simp [Builtin.len_, run_underlying hu, getObj, Sem.run, hh, hl]
    · cases he
  · cases he
theorem len_fact {t : TypeId} {x y : AV} {m m' : Mem} (he : lenE P t x m = some (y, m')) : Fact m m' := by
  unfold lenE at he
  split at he
  · cases he; exact Fact.refl m
  · split at he
    · rename_i hb; cases he; exact Fact.touch m _ (by rw [hb]; rfl)
    · cases he
  · cases he
/-- copy -/
def copyE (P : Program) (t : TypeId) (d x : AV) (m : Mem) : Option (AV × Mem) :=
  match P.underlying t with
  | some (.slice e) =>
    match sizeE P e with
    | some s =>
      match srcE s x m with
      | some (n, X, m1) =>
        match d with
        | .sl b off len sz _ =>
          match m1.get b with
          | some (.cells e' vs ex) =>
            if sz = s ∧ X.all AV.one = true ∧ off ≤ vs.length ∧ min n len ≠ 0 then some (.lit (goInt (min n len)), m1.write b (some (.cells e' (over vs off (X.take (min n len * s))) ex))) else none
          | _ => none
        | _ => none
      | none => none
    | none => none
  | _ => none
end
section
variable {P : Program}
theorem src_next {s n : Nat} {x : AV} {l : List AV} {m m' : Mem} (he : srcE s x m = some (n, l, m')) : m'.next = m.next := by
  unfold srcE at he
  repeat' (split at he)
  all_goals first | (cases he; done) | (cases he; rfl)
theorem copy_fact {t : TypeId} {d x y : AV} {m m' : Mem} (he : copyE P t d x m = some (y, m')) : Fact m m' := by
  unfold copyE at he
  split at he
  case h_2 => cases he
  split at he
  case h_2 => cases he
  split at he
  case h_2 => cases he
  rename_i n X m1 hsrc
  split at he
  case h_2 => cases he
  split at he
  case h_2 => cases he
  rename_i hb
  split at he
  case isFalse => cases he
  cases he
  exact (src_fact hsrc).trans (Fact.write _ _ _ (by rw [hb]; rfl))
theorem copy_ran {S : Nat → Prop} {V : Vl} {m m' : Mem} {w : World} (h : Sat V S m w) {t tx ty : TypeId} {d x y : AV} {v u : Value} (hd : d.is V v) (hx : x.is V u) (hS : ∀ b, bit m'.T b → S b) (he : copyE P t d x m = some (y, m')) :
    Ran P S V m w (Builtin.copy_ #[t, tx] ty #[v, u]) y m' := by
  unfold copyE at he
  split at he
  case h_2 => cases he
  rename_i e ht
  split at he
  case h_2 => cases he
  rename_i s hs
  split at he
  case h_2 => cases he
  rename_i n X m1 hsrc
  split at he
  case h_2 => cases he
  rename_i b off len sz cap
  split at he
  case h_2 => cases he
  rename_i e' vs ex hb
  split at he
  case isFalse => cases he
  rename_i hc
  obtain ⟨rfl, hones, hoff, hmin⟩ := hc
  cases he
  have hSb : S b := hS b ((bit_or _ _ _).2 (.inr rfl))
  obtain ⟨p, o', c, hp, rfl, hck, hlc, hop, ho⟩ := hd
  obtain ⟨⟨us, hus, hfirst, hfirsts⟩, hlen, hst⟩ := src_ran (P := P) (m' := m1) h hx (fun x hx => hS x ((bit_or _ _ _).2 (.inl hx))) hsrc
  have ho' : o' = off := ho.resolve_right (by omega)
  subst ho'
  have hk := hfirsts (min n len) (Nat.min_le_left _ _)
  have hXl := AV.are_length hus
  have hX := AV.are_take (min n len * sz) hus
  have hmul : min n len * sz ≤ c * sz := Nat.mul_le_mul_right _ (by omega)
  obtain ⟨p2, hp2, hstore⟩ := Step.cells (P := P) hst.plain hSb hb o' hX hoff (fun q hq => by rw [hp] at hq; cases hq; rw [List.length_take]; omega) (fun v hv => AV.ones hones hus v (List.mem_of_mem_take hv))
  rw [hp] at hp2
  cases hp2
  obtain ⟨w', hw', hst'⟩ := hstore 0 o' (by omega)
  refine Ran.after hst (src_next hsrc) (Nat.le_refl _) ⟨goInt (min n len), w', V, ?_, rfl, hst'⟩
  have hk2 := hk.2 w rfl
  have hsz : (sizeOf e).run P w = .ok sz w := run_sizeOf hs w
  have e1 : n.min len = min n len := rfl
  simp [Builtin.copy_, run_underlying ht, hlen, e1]
  rw [hsz]
  simp only [Result.andThen_ok]
  rw [hk2]
  simp only [Result.andThen_ok]
  rw [hw']
  simp only [Result.andThen_ok]
  refine congrArg (fun z => Result.ok (goInt z) w') ?_
  show ((min n len : Nat) : Int) = _
  omega
/-- a string's bytes as a new row -/
def strE (P : Program) (src dst : TypeId) (x : AV) (m : Mem) : Option (AV × Mem) :=
  match P.underlying src, P.underlying dst, x with
  | some .string, some (.slice e), .lit (.string s) =>
    match P.underlying e with
    | some (.int .u8) => some (.sl m.next 0 s.size 1 none, m.new (.cells e (s.data.toList.map (fun c => .lit (.int .u8 c.toNat))) false))
    | _ => none
  | _, _, _ => none
theorem str_fact {src dst : TypeId} {x y : AV} {m m' : Mem} (he : strE P src dst x m = some (y, m')) : Fact m m' := by
  unfold strE at he
  repeat' (split at he)
  all_goals first | (cases he; done) | (cases he; exact Fact.new _ _)
theorem str_ran {S : Nat → Prop} {V : Vl} {m m' : Mem} {w : World} (h : Sat V S m w) {src dst : TypeId} {x y : AV} {v : Value} (hx : x.is V v) (hf : Free V m m') (he : strE P src dst x m = some (y, m')) :
    Ran P S V m w (convert src dst v) y m' := by
  unfold strE at he
  split at he
  · rename_i e s hs hd
    obtain rfl : v = .string s := hx
    split at he
    · rename_i he8
      cases he
      have hf1 : V m.next = none := hf m.next ⟨Nat.le_refl _, Nat.lt_succ_self _⟩
      obtain ⟨cap, hcap⟩ : ∃ cap, cap = (Question.appendCap s.size 0 e).cut (w.tape w.drawn (.appendCap s.size 0 e)) := ⟨_, rfl⟩
      have hge : s.size ≤ cap := by rw [hcap]; exact Nat.le_add_right _ _
      let C : List Value := s.data.toList.map (fun c => Value.int .u8 c.toNat) ++ List.replicate (cap - s.size) (.int .u8 0)
      have hCl : C.length = cap := by simp [C]; omega
      let O : Obj := .cells C.toArray e (cap, cap + 1)
      have hw : (convert src dst (.string s)).run P w = .ok (.slice (some ⟨w.heap.size, 0, none⟩) s.size cap) { w.drew with heap := w.heap.push O } := by
        unfold convert
        simp only [Sem.run_bind, run_underlying hs, run_underlying hd, Result.andThen_ok, run_underlying he8]
        unfold Conv.stringToBytes
        have hfo : (Question.appendCap s.size 0 e).forced = false := rfl
        have hA : ((s.data.map fun b => Value.int .u8 b.toNat) ++ Array.replicate (cap - s.size) (Value.int .u8 0)) = C.toArray := by
          apply Array.ext'; simp [C]
        simp only [Sem.run_bind, run_choose, hfo, Bool.false_eq_true, if_false, Result.andThen_ok, ← hcap]
        rw [hA, run_newRow]
        simp only [Result.andThen_ok]
        unfold markStringish
        simp only [Sem.run_bind, shape, Sem.run, World.shape?, Result.andThen_ok, freeze]
        have hget : ((({ w with drawn := w.drawn + 1 } : World).alloc (.cells C.toArray e)).heap)[w.heap.size]? = some (.cells C.toArray e) := heap_alloc_new (w := { w with drawn := w.drawn + 1 }) _
        rw [hget]
        simp only [Sem.run, World.freeze, Nat.one_ne_zero, if_false, Result.andThen_ok]
        refine congrArg (Result.ok _) ?_
        show ({ tape := w.tape, drawn := w.drawn + 1, os := w.os, output := w.output, heap := _ } : World) = _
        congr 1
        apply Array.ext_getElem?
        intro i
        show (((w.heap.push (.cells C.toArray e)).modify w.heap.size _)[i]?) = (w.heap.push O)[i]?
        rw [Array.getElem?_modify, Array.getElem?_push, Array.getElem?_push]
        by_cases hi : i = w.heap.size
        · subst hi
          simp [O, hCl]
        · have hi2 : ¬ w.heap.size = i := fun e => hi e.symm
          simp [hi, hi2]
      refine ⟨_, _, V.with m.next (w.heap.size, cap), hw, ⟨_, 0, cap, Vl.with_same _ _ _, rfl, fun k hk => (by cases hk), hge, by simp, .inl rfl⟩, ?_⟩
      refine Step.new h hf1 _ O cap rfl rfl rfl rfl fun V' hle hn => ⟨_, C.toArray, (cap, cap + 1), hn, ?_, by simp [hCl], by simp; exact hge, ?_, fun hh => (by cases hh), .inr (Nat.le_refl _)⟩
      · show (w.heap.push O)[w.heap.size]? = _
        simp [O]
      · rw [show (C.toArray.toList.take (s.data.toList.map (fun c => AV.lit (.int .u8 c.toNat))).length) = s.data.toList.map (fun c => Value.int .u8 c.toNat) by
          show (s.data.toList.map (fun c => Value.int .u8 c.toNat) ++ _).take _ = _
          exact List.take_left' (by simp)]
        exact str_are s
    · cases he
  · cases he
/-- bytes as bytes: the row is marked -/
def selfE (P : Program) (t : TypeId) (x : AV) (m : Mem) : Option (AV × Mem) :=
  match P.underlying t, x with
  | some (.slice e), .sl b off len s cap =>
    match P.underlying e with
    | some (.int .u8) => match m.get b with
      | some (.cells e' vs ex) => some (.sl b off len s cap, m.write b (some (.cells e' vs ex)))
      | _ => none
    | _ => none
  | _, _ => none
theorem self_fact {t : TypeId} {x y : AV} {m m' : Mem} (he : selfE P t x m = some (y, m')) : Fact m m' := by
  unfold selfE at he
  split at he
  case h_2 => cases he
  split at he
  case h_2 => cases he
  split at he
  case h_2 => cases he
  rename_i hb
  cases he
  exact Fact.write _ _ _ (by rw [hb]; rfl)
theorem self_ran {S : Nat → Prop} {V : Vl} {m m' : Mem} {w : World} (h : Sat V S m w) {t : TypeId} {x y : AV} {v : Value} (hx : x.is V v) (hS : ∀ b, bit m'.T b → S b) (he : selfE P t x m = some (y, m')) :
    Ran P S V m w (convert t t v) y m' := by
  unfold selfE at he
  split at he
  case h_2 => cases he
  rename_i e b off len s cap hu
  split at he
  case h_2 => cases he
  rename_i h8
  split at he
  case h_2 => cases he
  rename_i e' vs ex hb
  cases he
  have hSb : S b := hS b ((bit_or _ _ _).2 (.inr rfl))
  obtain ⟨p, C, fr, hp, hh, hC, hlp, ha, hex, hfr⟩ := h.holds b hSb _ hb
  have hx' := hx
  obtain ⟨p2, o', c, hp2, rfl, _⟩ := hx'
  rw [hp] at hp2
  cases hp2
  have hlt : p.1 < w.heap.size := (Array.getElem?_eq_some_iff.1 hh).1
  refine ⟨_, w.freeze ⟨p.1, C.size, none⟩ 1, V, ?_, hx, ?_⟩
  · unfold convert
    simp only [Sem.run_bind, run_underlying hu, Result.andThen_ok, run_underlying h8, BEq.rfl]
    unfold markStringish
    simp only [Sem.run_bind, shape, Sem.run, World.shape?, Result.andThen_ok, freeze, hh]
    rfl
  · have hget : ∀ i, (w.freeze ⟨p.1, C.size, none⟩ 1).heap[i]? = if i = p.1 then some (.cells C e' (if fr.1 == fr.2 then (C.size, C.size + 1) else (min fr.1 C.size, max fr.2 (C.size + 1)))) else w.heap[i]? := fun i => by
      unfold World.freeze
      rw [if_neg (by omega)]
      simp only [Array.getElem?_modify]
      by_cases hi : i = p.1
      · subst hi
        rw [if_pos rfl, if_pos rfl, hh]
        rfl
      · rw [if_neg (fun e => hi e.symm), if_neg hi]
    refine Step.write h b hSb _ _ hb p hp ?_ ?_ ?_ ?_ (fun i hi => by rw [hget, if_neg hi]) ?_
    · unfold World.freeze; rw [if_neg (by omega)]
    · unfold World.freeze; rw [if_neg (by omega)]
    · unfold World.freeze; rw [if_neg (by omega)]
    · unfold World.freeze; rw [if_neg (by omega)]; simp
    · refine ⟨p, C, _, hp, by rw [hget, if_pos rfl], hC, hlp, ha, hex, ?_⟩
      split
      · exact .inr (by show p.2 ≤ C.size; omega)
      · rename_i hne
        have hne2 : fr.1 ≠ fr.2 := fun e => hne (by rw [e]; exact BEq.rfl)
        exact .inr (by show p.2 ≤ min fr.1 C.size; have := hfr.resolve_left hne2; omega)
end
section
variable {P : Program}
/-- the bytes of known cells -/
def bytesOf : List AV → Option (List Int)
  | [] => some []
  | .lit (.int .u8 n) :: l => match bytesOf l with | some ns => some (n :: ns) | none => none
  | _ :: _ => none
theorem bytes_are {V : Vl} : ∀ {l : List AV} {ns : List Int} {us : List Value}, bytesOf l = some ns → AV.are V l us → us = ns.map (Value.int .u8)
  | [], _, _, h, k => by cases h; exact k
  | x :: xs, ns, us, h, k => by
    obtain ⟨v, us', rfl, h2, h3⟩ := k
    unfold bytesOf at h
    split at h
    · cases h; rename_i e; cases e
    · rename_i n l e
      cases e
      split at h
      · rename_i ns' hn
        cases h
        rw [bytes_are hn h3, show v = .int .u8 n from h2]; rfl
      · cases h
    · cases h
def byteStrE (P : Program) (src dst : TypeId) (x : AV) (m : Mem) : Option (AV × Mem) :=
  match P.underlying src, P.underlying dst with
  | some (.slice e), some .string =>
    match P.underlying e with
    | some (.int .u8) =>
      match x with
      | .sl _ _ _ _ _ =>
        match srcE 1 x m with
        | some (n, X, m1) => match bytesOf X with
          | some ns => some (.lit (.string (ns.foldl (fun r n => r.push (UInt8.ofNat n.toNat)) ByteArray.empty)), m1)
          | none => none
        | none => none
      | _ => none
    | _ => none
  | _, _ => none
theorem byteStr_fact {src dst : TypeId} {x y : AV} {m m' : Mem} (he : byteStrE P src dst x m = some (y, m')) : Fact m m' := by
  unfold byteStrE at he
  split at he
  case h_2 => cases he
  split at he
  case h_2 => cases he
  split at he
  case h_2 => cases he
  split at he
  case h_2 => cases he
  rename_i hsrc
  split at he
  · cases he; exact src_fact hsrc
  · cases he
theorem byteStr_ran {S : Nat → Prop} {V : Vl} {m m' : Mem} {w : World} (h : Sat V S m w) {src dst : TypeId} {x y : AV} {v : Value} (hx : x.is V v) (hS : ∀ b, bit m'.T b → S b) (he : byteStrE P src dst x m = some (y, m')) :
    Ran P S V m w (convert src dst v) y m' := by
  unfold byteStrE at he
  split at he
  case h_2 => cases he
  rename_i e hs hd
  split at he
  case h_2 => cases he
  rename_i h8
  split at he
  case h_2 => cases he
  rename_i b off len s cap
  split at he
  case h_2 => cases he
  rename_i n X m1 hsrc
  split at he
  case h_2 => cases he
  rename_i ns hns
  cases he
  obtain ⟨⟨us, hus, hfirst, hfirsts⟩, hlen, hst⟩ := src_ran (P := P) h hx hS hsrc
  obtain ⟨p, o', c, hp, rfl, hck, hlc, hop, ho⟩ := hx
  have hl := hlen w
  have hn : len = n := by cases hl; rfl
  subst hn
  have hf := hfirst.2 w rfl
  rw [bytes_are hns hus] at hf
  refine ⟨_, w, V, ?_, rfl, hst⟩
  rw [run_convert_bytes_string w src dst e _ len c hs h8 hd]
  refine run_bytesToString w _ len c ns ?_
  have : (Builtin.firstCells 1 len (.slice (some ⟨p.1, o', none⟩) len c)) = loadCells ⟨p.1, o', none⟩ len := by
    show loadCells _ (len * 1) = _
    rw [Nat.mul_one]
  rw [← this]
  exact hf
/-- a made slice -/
def makeE (P : Program) (t : TypeId) (l c : AV) (m : Mem) : Option (AV × Mem) :=
  match l, c with
  | .lit (.int _ (.ofNat n)), .lit (.int _ (.ofNat k)) =>
    match P.underlying t with
    | some (.slice e) =>
      match P.info? e with
      | some i => match i.zero with
        | some z => if n ≤ k ∧ i.bytes * k ≤ 281474976710656 ∧ k ≤ 4294967296 then some (.sl m.next 0 n i.size (some k), m.new (.cells e ((madeCells z.cells (k * i.size)).toList.map .lit) true)) else none
        | none => none
      | none => none
    | _ => none
  | _, _ => none
theorem make_fact {t : TypeId} {l c y : AV} {m m' : Mem} (he : makeE P t l c m = some (y, m')) : Fact m m' := by
  unfold makeE at he
  repeat' (split at he)
  all_goals first | (cases he; done) | (cases he; exact Fact.new _ _)
theorem make_ran {S : Nat → Prop} {V : Vl} {m m' : Mem} {w : World} (h : Sat V S m w) {t : TypeId} {l c y : AV} {u v : Value} (hl : l.is V u) (hc : c.is V v) (hf : Free V m m') (he : makeE P t l c m = some (y, m')) :
    Ran P S V m w (Instr.makeSlice t u v) y m' := by
  unfold makeE at he
  split at he
  case h_2 => cases he
  rename_i kl n kc k
  obtain rfl : u = .int kl (.ofNat n) := hl
  obtain rfl : v = .int kc (.ofNat k) := hc
  split at he
  case h_2 => cases he
  rename_i e ht
  split at he
  case h_2 => cases he
  rename_i i hi
  split at he
  case h_2 => cases he
  rename_i z hz
  split at he
  case isFalse => cases he
  rename_i hb
  obtain ⟨h1, h2, h3⟩ := hb
  cases he
  have hf1 : V m.next = none := hf m.next ⟨Nat.le_refl _, Nat.lt_succ_self _⟩
  have hr := run_make (P := P) w t e i z ht hi hz kl kc (.ofNat n) (.ofNat k) (by show (0 : Int) ≤ ((n : Nat) : Int); omega) (by show ((n : Nat) : Int) ≤ ((k : Nat) : Int); omega) (by show ((i.bytes : Nat) : Int) * ((k : Nat) : Int) ≤ ((281474976710656 : Nat) : Int); rw [← Int.natCast_mul]; exact Int.ofNat_le.2 h2) (by show ((k : Nat) : Int) ≤ _; omega)
  have hs := Step.row h hf1 e ((madeCells z.cells (k * i.size)).toList.map .lit) (madeCells z.cells (k * i.size)).toList [] true (are_lits _) (fun _ => rfl)
  rw [List.append_nil, Array.toArray_toList] at hs
  refine ⟨_, _, _, hr, ⟨(w.heap.size, (madeCells z.cells (k * i.size)).toList.length), 0, k, if_pos rfl, rfl, fun q hq => by cases hq; rfl, h1, ?_, .inl rfl⟩, hs⟩
  simp [size_madeCells]
theorem foldl_over : ∀ (l : List Value) (k off : Nat) (cells : Array Value), off + k + l.length ≤ cells.size →
    ((l.zipIdx k).foldl (fun (cs : Array Value) (p : Value × Nat) => cs.setIfInBounds (off + p.2) p.1) cells).toList = over cells.toList (off + k) l
  | [], k, off, cells, _ => by simp [over]
  | v :: l, k, off, cells, h => by
    simp only [List.length_cons] at h
    rw [List.zipIdx_cons, List.foldl_cons, foldl_over l (k + 1) off _ (by simp; omega)]
    have e := list_seg_step cells.toList (off + k) v l (by simp; omega)
    rw [Array.toList_setIfInBounds]
    unfold over
    rw [show off + (k + 1) = off + k + 1 by omega, show off + k + 1 + l.length = off + k + 1 + l.length from rfl]
    rw [e]
    simp only [List.length_cons]
/-- the cells of a struct or an array, part by part -/
def fillA (place : Nat → Option (Nat × Nat)) (l : List AV) : List (Nat × List AV) → Option (List AV)
  | [] => some l
  | (i, xs) :: rest =>
    match place i with
    | none => none
    | some (off, size) => if xs.length = size ∧ off + xs.length ≤ l.length then fillA place (over l off xs) rest else none
def partsAre (V : Vl) : List (Nat × List AV) → List (Nat × Value) → Prop
  | [], ys => ys = []
  | (i, xs) :: r, ys => ∃ v ys', ys = (i, v) :: ys' ∧ AV.are V xs v.cells.toList ∧ partsAre V r ys'
theorem fill_are {V : Vl} (place : Nat → Option (Nat × Nat)) : ∀ (ps : List (Nat × List AV)) (qs : List (Nat × Value)) (l r : List AV) (C : Array Value), partsAre V ps qs → AV.are V l C.toList → fillA place l ps = some r → ∃ C', Instr.fill place C qs = some C' ∧ AV.are V r C'.toList
  | [], qs, l, r, C, hp, hl, h => by cases hp; cases h; exact ⟨C, rfl, hl⟩
  | (i, xs) :: ps, qs, l, r, C, hp, hl, h => by
    obtain ⟨v, ys', rfl, hv, hp'⟩ := hp
    unfold fillA at h
    split at h
    · cases h
    · rename_i off size hpl
      split at h
      · rename_i hc
        obtain ⟨hc1, hc2⟩ := hc
        have hvl := AV.are_length hv
        have hll := AV.are_length hl
        have hfo := foldl_over v.cells.toList 0 off C (by simp at hvl hll ⊢; omega)
        rw [Nat.add_zero] at hfo
        have hz : (v.cells.zipIdx.foldl (fun cs (x : Value × Nat) => cs.setIfInBounds (off + x.2) x.1) C).toList = over C.toList off v.cells.toList := by
          rw [← hfo, ← Array.foldl_toList]
          congr 2
          simp
        obtain ⟨C', h1, h2⟩ := fill_are place ps ys' _ r (v.cells.zipIdx.foldl (fun cs (x : Value × Nat) => cs.setIfInBounds (off + x.2) x.1) C) hp' (by rw [hz]; exact over_are off hl hv) h
        refine ⟨C', ?_, h2⟩
        unfold Instr.fill
        simp only [hpl]
        rw [if_neg (by simp at hvl hll ⊢; omega)]
        exact h1
      · cases h
def placesE (P : Program) (t : TypeId) : Option (List AV × (Nat → Option (Nat × Nat))) :=
  match P.info? t, P.underlying t with
  | some it, some (.array _ e) =>
    match it.zero, P.info? e with
    | some z, some ie => some (z.cells.toList.map .lit, fun i => some (i * ie.size, ie.size))
    | _, _ => none
  | some it, some (.struct fields) =>
    match it.zero, fields.toList.mapM (fun f => (P.info? f.type).map fun i => (f.offset, i.size)) with
    | some z, some places => some (z.cells.toList.map .lit, fun i => places[i]?)
    | _, _ => none
  | _, _ => none
def partsE : List (Nat × AV) → Option (List (Nat × List AV))
  | [] => some []
  | (i, x) :: r => match x.cells, partsE r with
    | some l, some ps => some ((i, l) :: ps)
    | _, _ => none
def buildE (P : Program) (t : TypeId) (parts : List (Nat × AV)) : Option AV :=
  match placesE P t, partsE parts with
  | some (z, place), some ps => match fillA place z ps with | some l => some (mkAgg l) | none => none
  | _, _ => none
def pairsAre (V : Vl) : List (Nat × AV) → List (Nat × Value) → Prop
  | [], ys => ys = []
  | (i, x) :: r, ys => ∃ v ys', ys = (i, v) :: ys' ∧ x.is V v ∧ pairsAre V r ys'
theorem parts_are {V : Vl} : ∀ {ps : List (Nat × AV)} {qs : List (Nat × Value)} {rs : List (Nat × List AV)}, partsE ps = some rs → pairsAre V ps qs → partsAre V rs qs
  | [], _, _, h, k => by cases h; exact k
  | (i, x) :: ps, qs, rs, h, k => by
    obtain ⟨v, ys', rfl, h2, h3⟩ := k
    unfold partsE at h
    split at h
    · rename_i l rs' hl hr
      cases h
      exact ⟨v, ys', rfl, AV.cells_is hl h2, parts_are hr h3⟩
    · cases h
theorem build_ran {V : Vl} {w : World} {t : TypeId} {ps : List (Nat × AV)} {qs : Array (Nat × Value)} {y : AV} (hp : pairsAre V ps qs.toList) (he : buildE P t ps = some y) : ∃ u, (Instr.build t qs).run P w = .ok u w ∧ y.is V u := by
  unfold buildE at he
  split at he
  case h_2 => cases he
  rename_i z place rs hpl hrs
  split at he
  case h_2 => cases he
  rename_i l hl
  cases he
  have hb : ∃ C', P.built t qs.toList = some C' ∧ AV.are V l C'.toList := by
    have hps := parts_are hrs hp
    unfold placesE at hpl
    split at hpl
    · rename_i it n e hit hu
      split at hpl
      · rename_i zz ie hz hie
        cases hpl
        obtain ⟨C', h1, h2⟩ := fill_are _ _ _ _ _ zz.cells hps (are_lits _) hl
        refine ⟨C', ?_, h2⟩
        unfold Program.built
        simp only [hit, hu, hz, hie]
        exact h1
      · cases hpl
    · rename_i it fields hit hu
      split at hpl
      · rename_i zz places hz hie
        cases hpl
        obtain ⟨C', h1, h2⟩ := fill_are _ _ _ _ _ zz.cells hps (are_lits _) hl
        refine ⟨C', ?_, h2⟩
        unfold Program.built
        simp only [hit, hu, hz, hie]
        rw [← h1]
        congr 1
        funext i
        simp
      · cases hpl
    · cases hpl
  obtain ⟨C', hb, ha⟩ := hb
  refine ⟨.agg C', run_build w t qs C' hb, ?_⟩
  have := mkAgg_is ha
  rwa [Array.toArray_toList] at this
end
section
variable {P : Program}
/-- a slice literal -/
def buildSliceE (P : Program) (t : TypeId) (len : Nat) (parts : List (Nat × AV)) (m : Mem) : Option (AV × Mem) :=
  match P.underlying t with
  | some (.slice e) =>
    match P.info? e with
    | some i => match i.zero, partsE parts with
      | some z, some ps => if len * i.size ≤ 16777216 then
          match fillA (fun j => some (j * i.size, i.size)) ((madeCells z.cells (len * i.size)).toList.map .lit) ps with
          | some l => some (.sl m.next 0 len i.size (some len), m.new (.cells e l true))
          | none => none
        else none
      | _, _ => none
    | none => none
  | _ => none
theorem buildSlice_fact {t : TypeId} {len : Nat} {ps : List (Nat × AV)} {y : AV} {m m' : Mem} (he : buildSliceE P t len ps m = some (y, m')) : Fact m m' := by
  unfold buildSliceE at he
  repeat' (split at he)
  all_goals first | (cases he; done) | (cases he; exact Fact.new _ _)
theorem fill_size (place : Nat → Option (Nat × Nat)) : ∀ (qs : List (Nat × Value)) (C C' : Array Value), Instr.fill place C qs = some C' → C'.size = C.size
  | [], C, C', h => by cases h; rfl
  | (i, v) :: qs, C, C', h => by
    unfold Instr.fill at h
    split at h
    · cases h
    · split at h
      · cases h
      · rename_i hc
        rw [fill_size place qs _ C' h]
        rename_i off size _ 
        rw [← Array.foldl_toList]
        have : ∀ (l : List (Value × Nat)) (C : Array Value), (l.foldl (fun cs (x : Value × Nat) => cs.setIfInBounds (off + x.2) x.1) C).size = C.size := by
          intro l
          induction l with
          | nil => intro C; rfl
          | cons a l ih => intro C; rw [List.foldl_cons, ih]; simp
        exact this _ _
theorem buildSlice_ran {S : Nat → Prop} {V : Vl} {m m' : Mem} {w : World} (h : Sat V S m w) {t : TypeId} {len : Nat} {ps : List (Nat × AV)} {qs : Array (Nat × Value)} {y : AV} (hp : pairsAre V ps qs.toList) (hf : Free V m m') (he : buildSliceE P t len ps m = some (y, m')) :
    Ran P S V m w (Instr.buildSlice t len qs) y m' := by
  unfold buildSliceE at he
  split at he
  case h_2 => cases he
  rename_i e ht
  split at he
  case h_2 => cases he
  rename_i i hi
  split at he
  case h_2 => cases he
  rename_i z rs hz hrs
  split at he
  case isFalse => cases he
  rename_i hlim
  split at he
  case h_2 => cases he
  rename_i l hl
  cases he
  have hf1 : V m.next = none := hf m.next ⟨Nat.le_refl _, Nat.lt_succ_self _⟩
  obtain ⟨C', h1, h2⟩ := fill_are _ _ _ _ _ (madeCells z.cells (len * i.size)) (parts_are hrs hp) (are_lits _) hl
  have hsz := fill_size _ _ _ _ h1
  rw [size_madeCells] at hsz
  have hs := Step.row h hf1 e l C'.toList [] true h2 (fun _ => rfl)
  rw [List.append_nil, Array.toArray_toList] at hs
  refine ⟨_, _, _, ?_, ⟨(w.heap.size, C'.toList.length), 0, len, if_pos rfl, rfl, fun q hq => by cases hq; rfl, Nat.le_refl _, by simp [hsz], .inl rfl⟩, hs⟩
  have hz1 : (sizeOf e).run P w = .ok i.size w := run_sizeOf (by unfold sizeE; rw [hi]) w
  have hz2 : (zeroValue e).run P w = .ok z w := run_zeroValue (by unfold zeroE; rw [hi]; exact hz) w
  have hlim2 : ¬ (16777216 < len * i.size) := by omega
  unfold Instr.buildSlice
  have hfill : Instr.fill (fun j => some (j * i.size, i.size)) ((Array.range (len * i.size)).map (z.cells[· % z.cells.size]!)) qs.toList = some C' := h1
  by_cases h0 : len * i.size = 0
  · have h1' : Instr.fill (fun j => some (j * i.size, i.size)) #[] qs.toList = some C' := by
      rw [← h1]; congr 1; unfold madeCells; rw [h0]; simp
    simp [Sem.run_bind, run_underlying ht, hz1, h0, Array.range_zero', h1', run_newRow]
  · simp [Sem.run_bind, run_underlying ht, hz1, h0, hlim2, hz2, hfill, run_newRow]
/-- a component of a tuple -/
def extractE (x : AV) (i : Nat) : Option AV :=
  match x with
  | .tup l => l[i]?
  | _ => none
theorem extract_ran {V : Vl} {w : World} {x y : AV} {i : Nat} {v : Value} (hx : x.is V v) (he : extractE x i = some y) : ∃ u, (Instr.extract v i).run P w = .ok u w ∧ y.is V u := by
  unfold extractE at he
  split at he
  · obtain ⟨vs, h1, rfl⟩ := hx
    obtain ⟨u, hu, hy⟩ := AV.are_get h1 i y he
    refine ⟨u, ?_, hy⟩
    unfold Instr.extract
    simp [hu, Sem.run_pure]
  · cases he
/-- a part of a struct's or an array's cells -/
def partE (P : Program) (t : TypeId) (l : List AV) (off : Nat) : Option AV :=
  match aggOf P t with
  | some true => match sizeE P t with
    | some n => some (mkAgg ((l.drop off).take n))
    | none => none
  | some false => l[off]?
  | none => none
theorem part_ran {V : Vl} {w : World} {t : TypeId} {l : List AV} {off : Nat} {y : AV} {C : Array Value} (hl : AV.are V l C.toList) (he : partE P t l off = some y) : ∃ u, (part t C off).run P w = .ok u w ∧ y.is V u := by
  unfold partE at he
  split at he
  · rename_i ha
    split at he
    · rename_i n hn
      cases he
      refine ⟨.agg (C.extract off (off + n)), ?_, ?_⟩
      · unfold part
        rw [Sem.run_bind, run_isAgg ha]
        simp only [Result.andThen_ok, if_true]
        rw [Sem.run_bind, run_sizeOf hn]
        rfl
      · have := mkAgg_is (AV.are_take n (AV.are_drop off hl))
        rwa [show ((C.toList.drop off).take n).toArray = C.extract off (off + n) by apply Array.ext'; simp] at this
    · cases he
  · rename_i ha
    obtain ⟨u, hu, hy⟩ := AV.are_get hl off y he
    rw [Array.getElem?_toList] at hu
    refine ⟨u, ?_, hy⟩
    unfold part
    rw [Sem.run_bind, run_isAgg ha]
    simp [hu, Sem.run_pure]
  · cases he
def fieldVE (P : Program) (t : TypeId) (x : AV) (f : Nat) : Option AV :=
  match x with
  | .agg l => match P.underlying t with
    | some (.struct fields) => match fields[f]? with
      | some fd => partE P fd.type l fd.offset
      | none => none
    | _ => none
  | _ => none
theorem fieldV_ran {V : Vl} {w : World} {t : TypeId} {x y : AV} {f : Nat} {v : Value} (hx : x.is V v) (he : fieldVE P t x f = some y) : ∃ u, (Instr.field t v f).run P w = .ok u w ∧ y.is V u := by
  unfold fieldVE at he
  split at he
  case h_2 => cases he
  obtain ⟨vs, h1, rfl⟩ := hx
  split at he
  case h_2 => cases he
  rename_i fields hu
  split at he
  case h_2 => cases he
  rename_i fd hf
  obtain ⟨u, h2, h3⟩ := part_ran (P := P) (w := w) (C := vs.toArray) h1 he
  refine ⟨u, ?_, h3⟩
  unfold Instr.field
  rw [Sem.run_bind, run_underlying hu w]
  simp only [Result.andThen_ok, hf]
  rw [Sem.run_bind]
  exact h2
/-- held against nil -/
def nilEqE (P : Program) (t : TypeId) (x y : AV) : Bool :=
  match P.underlying t, x, y with
  | some (.pointer _), .ptr _ _, .lit (.pointer none) => true
  | some (.slice _), .sl _ _ _ _ _, .lit (.slice none _ _) => true
  | some (.map _ _), .map _, .lit (.map none) => true
  | some (.func _ _ _), .fn _ _ _, .lit .nilFunc => true
  | some (.interface _), .iface _ _, .lit .nilIface => true
  | _, _, _ => false
theorem eq_nil1 (w : World) (d : Nat) {t e : TypeId} (a : Addr) (hu : P.underlying t = some (.pointer e)) : (Op.equalIn (d + 1) t (.pointer (some a)) (.pointer none)).run P w = .ok false w := by
  simp [Op.equalIn, Sem.run_bind, run_underlying hu, Sem.run_pure]
theorem eq_nil2 (w : World) (d : Nat) {t e : TypeId} (a : Addr) (l c l' c' : Nat) (hu : P.underlying t = some (.slice e)) : (Op.equalIn (d + 1) t (.slice (some a) l c) (.slice none l' c')).run P w = .ok false w := by
  simp [Op.equalIn, Sem.run_bind, run_underlying hu, Sem.run_pure]
theorem eq_nil3 (w : World) (d : Nat) {t k e : TypeId} (r : Nat) (hu : P.underlying t = some (.map k e)) : (Op.equalIn (d + 1) t (.map (some r)) (.map none)).run P w = .ok false w := by
  simp [Op.equalIn, Sem.run_bind, run_underlying hu, Sem.run_pure]
theorem eq_nil4 (w : World) (d : Nat) {t : TypeId} {a b : Array TypeId} {c : Bool} (f : Fn) (x y : Array Value) (hu : P.underlying t = some (.func a b c)) : (Op.equalIn (d + 1) t (.func f x y) .nilFunc).run P w = .ok false w := by
  simp [Op.equalIn, Sem.run_bind, run_underlying hu, Sem.run_pure]
theorem eq_nil5 (w : World) (d : Nat) {t : TypeId} {a : Array (String × TypeId)} (u : TypeId) (x : Value) (hu : P.underlying t = some (.interface a)) : (Op.equalIn (d + 1) t (.iface u x) .nilIface).run P w = .ok false w := by
  simp [Op.equalIn, Sem.run_bind, run_underlying hu, Sem.run_pure]
theorem nilEq_ran {V : Vl} {w : World} {t : TypeId} {x y : AV} {v u : Value} (hx : x.is V v) (hy : y.is V u) (h : nilEqE P t x y = true) : (Op.equal t v u).run P w = .ok false w ∧ (v.oneCell' = true ∧ v ≠ .nilIface) := by
  unfold nilEqE at h
  split at h
  · rename_i e b o hu
    obtain ⟨p, _, rfl⟩ := hx
    obtain rfl : u = .pointer none := hy
    exact ⟨eq_nil1 w 9999 _ hu, rfl, by simp⟩
  · rename_i e b o l s c a k hu
    obtain ⟨p, _, _, _, rfl, _⟩ := hx
    obtain rfl : u = .slice none a k := hy
    exact ⟨eq_nil2 w 9999 _ _ _ _ _ hu, rfl, by simp⟩
  · rename_i a b e hu
    obtain ⟨p, _, rfl⟩ := hx
    obtain rfl : u = .map none := hy
    exact ⟨eq_nil3 w 9999 _ hu, rfl, by simp⟩
  · rename_i a b c f q l hu
    obtain ⟨_, p, _, _, rfl⟩ := hx
    obtain rfl : u = .nilFunc := hy
    exact ⟨eq_nil4 w 9999 _ _ _ hu, rfl, by simp⟩
  · rename_i a d z hu
    obtain ⟨p, _, rfl⟩ := hx
    obtain rfl : u = .nilIface := hy
    exact ⟨eq_nil5 w 9999 _ _ hu, rfl, by simp⟩
  · cases h
end
section
variable {P : Program}
theorem run_getMap {w : World} {r : Nat} {E : Array MapEntry} {c : Nat} (h : w.heap[r]? = some (.map E c)) : (getObj r).run P w = .ok (.map E c) w := by
  simp only [getObj, Sem.run, h]
theorem run_setMap {w : World} {r : Nat} {E E' : Array MapEntry} {c c' : Nat} (h : w.heap[r]? = some (.map E c)) : (setObj r (.map E' c')).run P w = .ok () { w with heap := w.heap.setIfInBounds r (.map E' c') } := by
  simp only [setObj, Sem.run, h]
def makeMapE (P : Program) (t : TypeId) (r : Option AV) (m : Mem) : Option (AV × Mem) :=
  match r with
  | none => some (.map m.next, m.new (.map [] 0))
  | some (.lit (.int _ _)) => match P.underlying t with
    | some (.map _ _) => some (.map m.next, m.new (.map [] 0))
    | _ => none
  | _ => none
theorem makeMap_fact {t : TypeId} {r : Option AV} {y : AV} {m m' : Mem} (he : makeMapE P t r m = some (y, m')) : Fact m m' := by
  unfold makeMapE at he
  repeat' (split at he)
  all_goals first | (cases he; done) | (cases he; exact Fact.new _ _)
theorem makeMap_ran {S : Nat → Prop} {V : Vl} {m m' : Mem} {w : World} (h : Sat V S m w) {t : TypeId} {r : Option AV} {r' : Option Value} {y : AV} (hr : optIs V r r') (hf : Free V m m') (he : makeMapE P t r m = some (y, m')) :
    Ran P S V m w (Instr.makeMap t r') y m' := by
  have key : V m.next = none → Ran P S V m w (do pure (.map (some (← newObj (.map #[] 0))))) (.map m.next) (m.new (.map [] 0)) := fun hf1 =>
    ⟨.map (some w.heap.size), w.alloc (.map #[] 0), V.with m.next (w.heap.size, 0), rfl, ⟨_, Vl.with_same _ _ _, rfl⟩, Step.new h hf1 _ (.map #[] 0) 0 rfl rfl rfl rfl fun V' hle hn => ⟨_, #[], hn, heap_alloc_new w _, rfl⟩⟩
  unfold makeMapE at he
  split at he
  · cases he
    obtain rfl : r' = none := by cases r' with | none => rfl | some _ => exact hr.elim
    exact key (hf m.next ⟨Nat.le_refl _, Nat.lt_succ_self _⟩)
  · rename_i k n
    split at he
    · rename_i a b hu
      cases he
      obtain ⟨u, rfl⟩ : ∃ u, r' = some u := by cases r' with | none => exact hr.elim | some u => exact ⟨u, rfl⟩
      obtain rfl : u = .int k n := hr
      obtain ⟨v, w', V', h1, h2, h3⟩ := key (hf m.next ⟨Nat.le_refl _, Nat.lt_succ_self _⟩)
      refine ⟨v, w', V', ?_, h2, h3⟩
      rw [← h1]
      simp [Instr.makeMap, Sem.run_bind, run_underlying hu, asInt, asIntOf]
    · cases he
  · cases he
/-- a key's place, where keys are held against one another at once; and by asking -/
def findNowA (kind : TypeDesc) (k : Value) : List (Value × AV × Nat) → Nat → Option (Option Nat)
  | [], _ => some none
  | e :: es, i => match Instr.sameNow kind k e.1 with
    | some true => some (some i)
    | some false => findNowA kind k es (i + 1)
    | none => none
def findAskA (P : Program) (t : TypeId) (k : Value) : List (Value × AV × Nat) → Nat → Option (Option Nat)
  | [], _ => some none
  | e :: es, i => match pureRun P (Op.equal t k e.1) with
    | .ok true => some (some i)
    | .ok false => findAskA P t k es (i + 1)
    | _ => none
def findA (P : Program) (t : TypeId) (k : Value) (es : List (Value × AV × Nat)) : Option (Option Nat) :=
  match P.underlying t with
  | some d => match findNowA d k es 0 with
    | some r => some r
    | none => findAskA P t k es 0
  | none => none
theorem findNow_is {V : Vl} {kind : TypeDesc} {k : Value} : ∀ {es : List (Value × AV × Nat)} {xs : List MapEntry} (i : Nat), entriesAre V es xs →
    match findNowA kind k es i with
    | none => Instr.findNow kind k xs i = none
    | some none => Instr.findNow kind k xs i = some none
    | some (some j) => i ≤ j ∧ ∃ e x, es[j - i]? = some e ∧ xs[j - i]? = some x ∧ entryIs V e x ∧ Instr.findNow kind k xs i = some (some (j, x.val))
  | [], xs, i, h => by subst h; rfl
  | e :: es, _, i, h => by
    obtain ⟨y, ys, rfl, h1, h2⟩ := h
    unfold findNowA Instr.findNow
    rw [h1.1]
    cases hs : Instr.sameNow kind k e.1 with
    | none => rfl
    | some b =>
      cases b with
      | true => exact ⟨Nat.le_refl _, e, y, by simp, by simp, h1, rfl⟩
      | false =>
        have ih := findNow_is (V := V) (kind := kind) (k := k) (i + 1) h2
        cases hf : findNowA kind k es (i + 1) with
        | none => rw [hf] at ih; exact ih
        | some r =>
          cases r with
          | none => rw [hf] at ih; exact ih
          | some j =>
            rw [hf] at ih
            obtain ⟨hj, e', x', g1, g2, g3, g4⟩ := ih
            refine ⟨by omega, e', x', ?_, ?_, g3, g4⟩
            · rw [show j - i = (j - (i + 1)) + 1 by omega, List.getElem?_cons_succ]; exact g1
            · rw [show j - i = (j - (i + 1)) + 1 by omega, List.getElem?_cons_succ]; exact g2
theorem findAsk_is {V : Vl} {t : TypeId} {k : Value} (w : World) : ∀ {es : List (Value × AV × Nat)} {xs : List MapEntry} (i : Nat), entriesAre V es xs →
    match findAskA P t k es i with
    | none => True
    | some none => (Instr.findAsking t k xs i).run P w = .ok none w
    | some (some j) => i ≤ j ∧ ∃ e x, es[j - i]? = some e ∧ xs[j - i]? = some x ∧ entryIs V e x ∧ (Instr.findAsking t k xs i).run P w = .ok (some (j, x.val)) w
  | [], xs, i, h => by subst h; rfl
  | e :: es, _, i, h => by
    obtain ⟨y, ys, rfl, h1, h2⟩ := h
    unfold findAskA Instr.findAsking
    rw [h1.1]
    cases hs : pureRun P (Op.equal t k e.1) with
    | no => trivial
    | pan v => trivial
    | ok b =>
      have hr := pure_ok w _ _ hs
      cases b with
      | true =>
        refine ⟨Nat.le_refl _, e, y, by simp, by simp, h1, ?_⟩
        rw [Sem.run_bind, hr]
        rfl
      | false =>
        have ih := findAsk_is (V := V) (t := t) (k := k) w (i + 1) h2
        have hcont : ∀ (r : Option (Nat × Value)), (Instr.findAsking t k ys (i + 1)).run P w = .ok r w → (do if ← Op.equal t k e.1 then pure (some (i, y.val)) else Instr.findAsking t k ys (i + 1) : Sem (Option (Nat × Value))).run P w = .ok r w := fun r hr' => by
          rw [Sem.run_bind, hr]
          exact hr'
        cases hf : findAskA P t k es (i + 1) with
        | none => trivial
        | some r =>
          cases r with
          | none => rw [hf] at ih; exact hcont _ ih
          | some j =>
            rw [hf] at ih
            obtain ⟨hj, e', x', g1, g2, g3, g4⟩ := ih
            refine ⟨by omega, e', x', ?_, ?_, g3, hcont _ g4⟩
            · rw [show j - i = (j - (i + 1)) + 1 by omega, List.getElem?_cons_succ]; exact g1
            · rw [show j - i = (j - (i + 1)) + 1 by omega, List.getElem?_cons_succ]; exact g2
theorem find_is {V : Vl} {t : TypeId} {k : Value} (w : World) {es : List (Value × AV × Nat)} {xs : List MapEntry} (h : entriesAre V es xs) {r : Option Nat} (he : findA P t k es = some r) :
    match r with
    | none => (Instr.findKey t k xs).run P w = .ok none w
    | some j => ∃ e x, es[j]? = some e ∧ xs[j]? = some x ∧ entryIs V e x ∧ (Instr.findKey t k xs).run P w = .ok (some (j, x.val)) w := by
  unfold findA at he
  split at he
  case h_2 => cases he
  rename_i d hu
  unfold Instr.findKey
  rw [Sem.run_bind, run_underlying hu w]
  simp only [Result.andThen_ok]
  have h1 := findNow_is (V := V) (kind := d) (k := k) 0 h
  split at he
  · rename_i r' hr'
    cases he
    rw [hr'] at h1
    cases r with
    | none => simp only [h1]; rfl
    | some j =>
      obtain ⟨_, e, x, g1, g2, g3, g4⟩ := h1
      rw [Nat.sub_zero] at g1 g2
      refine ⟨e, x, g1, g2, g3, ?_⟩
      simp only [g4]
      rfl
  · rename_i hn
    rw [hn] at h1
    have h2 := findAsk_is (P := P) (V := V) (t := t) (k := k) w 0 h
    rw [he] at h2
    simp only [h1]
    cases r with
    | none => exact h2
    | some j =>
      obtain ⟨_, e, x, g1, g2, g3, g4⟩ := h2
      rw [Nat.sub_zero] at g1 g2
      exact ⟨e, x, g1, g2, g3, g4⟩
def unitOk : PR Unit → Bool
  | .ok () => true
  | _ => false
theorem unit_run {s : Sem Unit} (h : unitOk (pureRun P s) = true) (w : World) : s.run P w = .ok () w := by
  cases hs : pureRun P s with
  | ok u => exact pure_ok w _ _ hs
  | pan v => rw [hs] at h; cases h
  | no => rw [hs] at h; cases h
/-- m[k] -/
def lookupE (P : Program) (t : TypeId) (x k : AV) (ok : Bool) (m : Mem) : Option (AV × Mem) :=
  match P.underlying t, x, k with
  | some (.map kt et), .map b, .lit kv =>
    match m.get b with
    | some (.map es _) =>
      if unitOk (pureRun P (Instr.checkKey es.isEmpty 10000 kt kv)) = true then
        match findA P kt kv es with
        | some (some j) => match es[j]? with
          | some e => some (if ok = true then mkTup [e.2.1, .lit (.bool true)] else e.2.1, m.touch b)
          | none => none
        | some none => match zeroE P et with
          | some z => some (if ok = true then mkTup [.lit z, .lit (.bool false)] else .lit z, m.touch b)
          | none => none
        | none => none
      else none
    | _ => none
  | _, _, _ => none
theorem lookup_fact {t : TypeId} {x k y : AV} {ok : Bool} {m m' : Mem} (he : lookupE P t x k ok m = some (y, m')) : Fact m m' := by
  unfold lookupE at he
  split at he
  · rename_i kt et b kv hu
    split at he
    · rename_i es clock hb
      have hm : m' = m.touch b := by
        repeat' (split at he)
        all_goals first | (cases he; done) | (cases he; rfl)
      rw [hm]
      exact Fact.touch m _ (by rw [hb]; rfl)
    · cases he
  · cases he
theorem isEmpty_are {V : Vl} : ∀ {es : List (Value × AV × Nat)} {xs : List MapEntry}, entriesAre V es xs → xs.isEmpty = es.isEmpty
  | [], _, h => by subst h; rfl
  | _ :: _, _, h => by obtain ⟨y, ys, rfl, _⟩ := h; rfl
theorem lookup_ran {S : Nat → Prop} {V : Vl} {m m' : Mem} {w : World} (h : Sat V S m w) {t : TypeId} {x k y : AV} {ok : Bool} {v u : Value} (hx : x.is V v) (hk : k.is V u) (hS : ∀ b, bit m'.T b → S b) (he : lookupE P t x k ok m = some (y, m')) :
    Ran P S V m w (Instr.lookup t v u ok) y m' := by
  unfold lookupE at he
  split at he
  case h_2 => cases he
  rename_i kt et b kv hu
  obtain rfl : u = kv := hk
  obtain ⟨p, hp, rfl⟩ := hx
  split at he
  case h_2 => cases he
  rename_i es clock hb
  split at he
  case isFalse => cases he
  rename_i hck
  have hm : m' = m.touch b := by
    repeat' (split at he)
    all_goals first | (cases he; done) | (cases he; rfl)
  obtain ⟨p2, E, hp2, hh, hE⟩ := h.holds b (hS b (by rw [hm]; exact (bit_or _ _ _).2 (.inr rfl))) _ hb
  rw [hp] at hp2
  cases hp2
  have hemp : E.isEmpty = es.isEmpty := by
    rw [← isEmpty_are hE]; simp
  have hcw := unit_run hck w
  rw [hm]
  have hfin : ∀ z, y.is V z → (Instr.lookup t (.map (some p.1)) u ok).run P w = .ok z w → Ran P S V m w (Instr.lookup t (.map (some p.1)) u ok) y (m.touch b) := fun z hz hr => ⟨z, w, V, hr, hz, Step.touch h b⟩
  split at he
  · rename_i j hf
    obtain ⟨e, x, g1, g2, g3, g4⟩ := find_is w hE hf
    rw [g1] at he
    cases he
    refine hfin (if ok = true then .tuple #[x.val, .bool true] else x.val) ?_ ?_
    · cases ok
      · exact g3.2.1
      · exact mkTup_is (vs := [x.val, .bool true]) ⟨_, _, rfl, g3.2.1, _, _, rfl, rfl, rfl⟩
    · have hcw' : (Instr.checkKey E.isEmpty 10000 kt u).run P w = .ok () w := by rw [hemp]; exact hcw
      cases ok <;> simp [Instr.lookup, run_underlying hu, run_getMap hh, hcw', g4]
  · rename_i hf
    have g4 := find_is w hE hf
    split at he
    · rename_i z hz
      cases he
      refine hfin (if ok = true then .tuple #[z, .bool false] else z) ?_ ?_
      · cases ok
        · rfl
        · exact mkTup_is (are_lits [z, Value.bool false])
      · have hcw' : (Instr.checkKey E.isEmpty 10000 kt u).run P w = .ok () w := by rw [hemp]; exact hcw
        have hzv := run_zeroValue hz w
        cases ok <;> simp [Instr.lookup, run_underlying hu, run_getMap hh, hcw', g4, hzv]
    · cases he
  · cases he
/-- a map's entries with one changed -/
theorem entries_set {V : Vl} : ∀ {es : List (Value × AV × Nat)} {xs : List MapEntry} (j : Nat) (e : Value × AV × Nat) (x : MapEntry), entriesAre V es xs → entryIs V e x → entriesAre V (es.set j e) (xs.set j x)
  | [], _, j, e, x, h, _ => by subst h; exact (by simp [entriesAre])
  | e' :: es, _, j, e, x, h, k => by
    obtain ⟨y, ys, rfl, h1, h2⟩ := h
    cases j with
    | zero => exact ⟨x, ys, rfl, k, h2⟩
    | succ j => exact ⟨y, _, rfl, h1, entries_set j e x h2 k⟩
theorem entries_push {V : Vl} : ∀ {es : List (Value × AV × Nat)} {xs : List MapEntry} (e : Value × AV × Nat) (x : MapEntry), entriesAre V es xs → entryIs V e x → entriesAre V (es ++ [e]) (xs ++ [x])
  | [], _, e, x, h, k => by subst h; exact ⟨x, [], rfl, k, rfl⟩
  | e' :: es, _, e, x, h, k => by obtain ⟨y, ys, rfl, h1, h2⟩ := h; exact ⟨y, _, rfl, h1, entries_push e x h2 k⟩
theorem entries_erase {V : Vl} : ∀ {es : List (Value × AV × Nat)} {xs : List MapEntry} (j : Nat), entriesAre V es xs → entriesAre V (es.eraseIdx j) (xs.eraseIdx j)
  | [], _, j, h => by subst h; exact (by simp [entriesAre])
  | e' :: es, _, j, h => by
    obtain ⟨y, ys, rfl, h1, h2⟩ := h
    cases j with
    | zero => exact h2
    | succ j => exact ⟨y, _, rfl, h1, entries_erase j h2⟩
/-- a map's block is laid anew -/
theorem Step.map {S : Nat → Prop} {V : Vl} {m : Mem} {w : World} (h : Sat V S m w) {b : Nat} (hb : S b) {es es' : List (Value × AV × Nat)} {c c' : Nat} (hk : m.get b = some (.map es c)) {p : Nat × Nat} (hp : V b = some p) {E E' : Array MapEntry} (hh : w.heap[p.1]? = some (.map E c)) (hE : entriesAre V es' E'.toList) :
    Step S V m w V (m.write b (some (.map es' c'))) { w with heap := w.heap.setIfInBounds p.1 (.map E' c') } := by
  have hlt : p.1 < w.heap.size := (Array.getElem?_eq_some_iff.1 hh).1
  refine Step.write h b hb _ _ hk p hp rfl rfl rfl (by simp) (fun i hi => ?_) ⟨p, E', hp, ?_, hE⟩
  · show (w.heap.setIfInBounds p.1 _)[i]? = _
    rw [Array.getElem?_setIfInBounds, if_neg (fun e => hi e.symm)]
  · show (w.heap.setIfInBounds p.1 _)[p.1]? = _
    rw [Array.getElem?_setIfInBounds, if_pos rfl, if_pos hlt]
/-- m[k] = x -/
def updateE (P : Program) (t : TypeId) (x k z : AV) (m : Mem) : Option Mem :=
  match P.underlying t, x, k with
  | some (.map kt _), .map b, .lit kv =>
    match m.get b with
    | some (.map es c) =>
      if unitOk (pureRun P (Instr.checkKey false 10000 kt kv)) = true then
        match findA P kt kv es with
        | some (some j) => match es[j]? with
          | some e => if Instr.sameBits 10000 e.1 kv = true then some (m.write b (some (.map (es.set j (kv, z, e.2.2)) c))) else none
          | none => none
        | some none => some (m.write b (some (.map (es ++ [(kv, z, c)]) (c + 1))))
        | none => none
      else none
    | _ => none
  | _, _, _ => none
theorem update_fact {t : TypeId} {x k z : AV} {m m' : Mem} (he : updateE P t x k z m = some m') : Fact m m' := by
  unfold updateE at he
  split at he
  · rename_i kt et b kv hu
    split at he
    · rename_i es clock hb
      have hm : ∃ q, m' = m.write b (some q) := by
        repeat' (split at he)
        all_goals first | (cases he; done) | (cases he; exact ⟨_, rfl⟩)
      obtain ⟨q, hm⟩ := hm
      rw [hm]
      exact Fact.write m _ _ (by rw [hb]; rfl)
    · cases he
  · cases he
theorem modify_at {E : Array MapEntry} {j : Nat} {x : MapEntry} (f : MapEntry → MapEntry) (hx : E.toList[j]? = some x) : (E.modify j f).toList = E.toList.set j (f x) := by
  rw [Array.getElem?_toList] at hx
  apply List.ext_getElem?
  intro i
  rw [Array.getElem?_toList, Array.getElem?_modify, List.getElem?_set]
  by_cases h : j = i
  · subst h
    have hlt := (Array.getElem?_eq_some_iff.1 hx).1
    rw [if_pos rfl, if_pos rfl, if_pos (by simpa using hlt), hx]
    rfl
  · rw [if_neg h, if_neg h, Array.getElem?_toList]
theorem update_ran {S : Nat → Prop} {V : Vl} {m m' : Mem} {w : World} (h : Sat V S m w) {t : TypeId} {x k z : AV} {v u y : Value} (hx : x.is V v) (hk : k.is V u) (hz : z.is V y) (hS : ∀ b, bit m'.T b → S b) (he : updateE P t x k z m = some m') :
    ∃ w', (Instr.mapUpdate t v u y).run P w = .ok () w' ∧ Step S V m w V m' w' := by
  unfold updateE at he
  split at he
  case h_2 => cases he
  rename_i kt et b kv hu
  obtain rfl : u = kv := hk
  obtain ⟨p, hp, rfl⟩ := hx
  split at he
  case h_2 => cases he
  rename_i es c hb
  split at he
  case isFalse => cases he
  rename_i hck
  have hSb : S b := hS b (by
    have hm : ∃ q, m' = m.write b (some q) := by
      repeat' (split at he)
      all_goals first | (cases he; done) | (cases he; exact ⟨_, rfl⟩)
    obtain ⟨q, hm⟩ := hm
    rw [hm]
    exact (bit_or _ _ _).2 (.inr rfl))
  obtain ⟨p2, E, hp2, hh, hE⟩ := h.holds b hSb _ hb
  rw [hp] at hp2
  cases hp2
  have hcw := unit_run hck w
  split at he
  · rename_i j hf
    obtain ⟨e, x, g1, g2, g3, g4⟩ := find_is w hE hf
    rw [g1] at he
    simp only at he
    split at he
    · rename_i hbits
      cases he
      refine ⟨_, ?_, Step.map h hSb hb hp hh (E' := E.modify j fun e => { e with key := u, val := y }) (by
        rw [modify_at _ g2]
        exact entries_set j _ _ hE ⟨rfl, hz, g3.2.2⟩)⟩
      have hkey : ((E[j]?).map (·.key)).getD u = e.1 := by
        rw [← Array.getElem?_toList, g2]; exact g3.1
      unfold Instr.mapUpdate
      rw [Sem.run_bind, run_underlying hu w]
      simp only [Result.andThen_ok]
      rw [Sem.run_bind, run_getMap hh]
      simp only [Result.andThen_ok]
      rw [Sem.run_bind, hcw]
      simp only [Result.andThen_ok]
      rw [Sem.run_bind, g4]
      simp only [Result.andThen_ok]
      rw [Sem.run_bind, hkey]
      have hks : (Instr.keyThatStays e.1 u).run P w = .ok u w := by
        unfold Instr.keyThatStays
        rw [if_pos hbits]
        rfl
      rw [hks]
      simp only [Result.andThen_ok]
      exact run_setMap hh
    · cases he
  · rename_i hf
    have g4 := find_is w hE hf
    cases he
    refine ⟨_, ?_, Step.map h hSb hb hp hh (E' := E.push { key := u, val := y, born := c }) (by
      rw [Array.toList_push]
      exact entries_push _ _ hE ⟨rfl, hz, rfl⟩)⟩
    unfold Instr.mapUpdate
    rw [Sem.run_bind, run_underlying hu w]
    simp only [Result.andThen_ok]
    rw [Sem.run_bind, run_getMap hh]
    simp only [Result.andThen_ok]
    rw [Sem.run_bind, hcw]
    simp only [Result.andThen_ok]
    rw [Sem.run_bind, g4]
    simp only [Result.andThen_ok]
    exact run_setMap hh
  · cases he
def undefA' : AV := .lit (.tuple #[])
/-- delete(m, k) -/
def deleteE (P : Program) (t : TypeId) (x k : AV) (m : Mem) : Option (AV × Mem) :=
  match P.underlying t, x, k with
  | some (.map kt _), .map b, .lit kv =>
    match m.get b with
    | some (.map es c) =>
      if unitOk (pureRun P (Instr.checkKey es.isEmpty 10000 kt kv)) = true then
        match findA P kt kv es with
        | some (some j) => some (undefA', m.write b (some (.map (es.eraseIdx j) c)))
        | some none => some (undefA', m.write b (some (.map es c)))
        | none => none
      else none
    | _ => none
  | _, _, _ => none
theorem delete_fact {t : TypeId} {x k y : AV} {m m' : Mem} (he : deleteE P t x k m = some (y, m')) : Fact m m' := by
  unfold deleteE at he
  split at he
  · rename_i kt et b kv hu
    split at he
    · rename_i es clock hb
      have hm : ∃ q, m' = m.write b (some q) := by
        repeat' (split at he)
        all_goals first | (cases he; done) | (cases he; exact ⟨_, rfl⟩)
      obtain ⟨q, hm⟩ := hm
      rw [hm]
      exact Fact.write m _ _ (by rw [hb]; rfl)
    · cases he
  · cases he
theorem delete_ran {S : Nat → Prop} {V : Vl} {m m' : Mem} {w : World} (h : Sat V S m w) {t tk ty : TypeId} {x k y : AV} {v u : Value} (hx : x.is V v) (hk : k.is V u) (hS : ∀ b, bit m'.T b → S b) (he : deleteE P t x k m = some (y, m')) :
    Ran P S V m w (Builtin.delete_ #[t, tk] ty #[v, u]) y m' := by
  unfold deleteE at he
  split at he
  case h_2 => cases he
  rename_i kt et b kv hu
  obtain rfl : u = kv := hk
  obtain ⟨p, hp, rfl⟩ := hx
  split at he
  case h_2 => cases he
  rename_i es c hb
  split at he
  case isFalse => cases he
  rename_i hck
  have hSb : S b := hS b (by
    have hm : ∃ q, m' = m.write b (some q) := by
      repeat' (split at he)
      all_goals first | (cases he; done) | (cases he; exact ⟨_, rfl⟩)
    obtain ⟨q, hm⟩ := hm
    rw [hm]
    exact (bit_or _ _ _).2 (.inr rfl))
  obtain ⟨p2, E, hp2, hh, hE⟩ := h.holds b hSb _ hb
  rw [hp] at hp2
  cases hp2
  have hemp : E.isEmpty = es.isEmpty := by
    rw [← isEmpty_are hE]; simp
  have hcw : (Instr.checkKey E.isEmpty 10000 kt u).run P w = .ok () w := by rw [hemp]; exact unit_run hck w
  split at he
  · rename_i j hf
    obtain ⟨e, x, g1, g2, g3, g4⟩ := find_is w hE hf
    cases he
    have hset := run_setMap (P := P) (E' := E.eraseIdxIfInBounds j) (c' := c) hh
    refine ⟨_, _, V, ?_, rfl, Step.map h hSb hb hp hh (E' := E.eraseIdxIfInBounds j) (by
      rw [show (E.eraseIdxIfInBounds j).toList = E.toList.eraseIdx j by simp [Array.eraseIdxIfInBounds]; split <;> simp_all [List.eraseIdx_of_length_le]]
      exact entries_erase j hE)⟩
    simp [Builtin.delete_, run_underlying hu, run_getMap hh, hcw, g4, hset]
  · rename_i hf
    have g4 := find_is w hE hf
    cases he
    have hset := run_setMap (P := P) (E' := E) (c' := c) hh
    refine ⟨_, _, V, ?_, rfl, Step.map h hSb hb hp hh (E' := E) hE⟩
    simp [Builtin.delete_, run_underlying hu, run_getMap hh, hcw, g4, hset]
  · cases he
/-- a range over a map or a string, and its steps: a map of which one entry is left at most -/
def rangeE (P : Program) (t : TypeId) (x : AV) (m : Mem) : Option (AV × Mem) :=
  match P.underlying t, x with
  | some .string, .lit (.string s) => some (.ptr m.next 0, m.new (.obj (.stringIter s 0)))
  | some (.map _ _), .lit (.map none) => some (.ptr m.next 0, m.new (.obj (.mapIter none 0 #[] 0)))
  | _, _ => none
theorem range_fact {t : TypeId} {x y : AV} {m m' : Mem} (he : rangeE P t x m = some (y, m')) : Fact m m' := by
  unfold rangeE at he
  repeat' (split at he)
  all_goals first | (cases he; done) | (cases he; exact Fact.new _ _)
theorem range_ran {S : Nat → Prop} {V : Vl} {m m' : Mem} {w : World} (h : Sat V S m w) {t : TypeId} {x y : AV} {v : Value} (hx : x.is V v) (hf : Free V m m') (he : rangeE P t x m = some (y, m')) : Ran P S V m w (Instr.range t v) y m' := by
  have key : ∀ (o : Obj), (∀ c e f, o ≠ .cells c e f) → V m.next = none → (Instr.range t v).run P w = .ok (.pointer (some ⟨w.heap.size, 0, none⟩)) (w.alloc o) → Ran P S V m w (Instr.range t v) (.ptr m.next 0) (m.new (.obj o)) := fun o ho hf1 hr =>
    ⟨_, _, V.with m.next (w.heap.size, 0), hr, ⟨_, Vl.with_same _ _ _, rfl⟩, Step.new h hf1 _ o 0 rfl rfl rfl rfl fun V' hle hn => ⟨_, hn, heap_alloc_new w o, ho⟩⟩
  unfold rangeE at he
  split at he
  · rename_i s hu
    obtain rfl : v = .string s := hx
    cases he
    exact key _ (by simp) (hf m.next ⟨Nat.le_refl _, Nat.lt_succ_self _⟩) (by simp [Instr.range, run_underlying hu])
  · rename_i a b hu
    obtain rfl : v = .map none := hx
    cases he
    exact key _ (by simp) (hf m.next ⟨Nat.le_refl _, Nat.lt_succ_self _⟩) (by simp [Instr.range, run_underlying hu])
  · cases he
def nextE (x : AV) (isS : Bool) (m : Mem) : Option (AV × Mem) :=
  match x with
  | .ptr b 0 =>
    match m.get b, isS with
    | some (.obj (.stringIter s pos)), true =>
      if pos < s.size then some (.lit (.tuple #[.bool true, goInt pos, .int .i32 (Utf8.decode s pos).1]), m.write b (some (.obj (.stringIter s (pos + (Utf8.decode s pos).2)))))
      else some (.lit (.tuple #[.bool false]), m.touch b)
    | some (.obj (.mapIter none _ _ _)), false => some (.lit (.tuple #[.bool false]), m.touch b)
    | _, _ => none
  | _ => none
theorem next_fact {x y : AV} {isS : Bool} {m m' : Mem} (he : nextE x isS m = some (y, m')) : Fact m m' := by
  unfold nextE at he
  split at he
  · split at he
    · rename_i hb
      split at he
      · cases he; exact Fact.write _ _ _ (by rw [hb]; rfl)
      · cases he; exact Fact.touch _ _ (by rw [hb]; rfl)
    · rename_i hb; cases he; exact Fact.touch _ _ (by rw [hb]; rfl)
    · cases he
  · cases he
theorem next_ran {S : Nat → Prop} {V : Vl} {m m' : Mem} {w : World} (h : Sat V S m w) {t : TypeId} {x y : AV} {isS : Bool} {v : Value} (hx : x.is V v) (hS : ∀ b, bit m'.T b → S b) (he : nextE x isS m = some (y, m')) : Ran P S V m w (Instr.next v isS t) y m' := by
  unfold nextE at he
  split at he
  case h_2 => cases he
  rename_i b
  obtain ⟨p, hp, rfl⟩ := hx
  split at he
  · rename_i s pos hb
    split at he
    · rename_i hlt
      cases he
      obtain ⟨p2, hp2, hh, _⟩ := h.holds b (hS b ((bit_or _ _ _).2 (.inr rfl))) _ hb
      rw [hp] at hp2
      cases hp2
      have hl : p.1 < w.heap.size := (Array.getElem?_eq_some_iff.1 hh).1
      have hget : (getObj p.1).run P w = .ok (.stringIter s pos) w := by simp only [getObj, Sem.run, hh]
      have hset : ∀ o, (setObj p.1 o).run P w = .ok () { w with heap := w.heap.setIfInBounds p.1 o } := fun o => by simp only [setObj, Sem.run, hh]
      refine ⟨_, { w with heap := w.heap.setIfInBounds p.1 (.stringIter s (pos + (Utf8.decode s pos).2)) }, V, ?_, rfl, Step.write h b (hS b ((bit_or _ _ _).2 (.inr rfl))) _ _ hb p hp rfl rfl rfl (by simp) (fun i hi => ?_) ⟨p, hp, ?_, by simp⟩⟩
      · unfold Instr.next
        simp only [Sem.run_bind, hget, Result.andThen_ok, if_pos hlt, hset]
        rfl
      · show (w.heap.setIfInBounds p.1 _)[i]? = _
        rw [Array.getElem?_setIfInBounds, if_neg (fun e => hi e.symm)]
      · show (w.heap.setIfInBounds p.1 _)[p.1]? = _
        rw [Array.getElem?_setIfInBounds, if_pos rfl, if_pos hl]
    · rename_i hlt
      cases he
      obtain ⟨p2, hp2, hh, _⟩ := h.holds b (hS b ((bit_or _ _ _).2 (.inr rfl))) _ hb
      rw [hp] at hp2
      cases hp2
      have hget : (getObj p.1).run P w = .ok (.stringIter s pos) w := by simp only [getObj, Sem.run, hh]
      refine ⟨_, w, V, ?_, rfl, Step.touch h b⟩
      unfold Instr.next
      simp only [Sem.run_bind, hget, Result.andThen_ok, if_neg hlt]
      rfl
  · rename_i a1 a2 a3 hb
    cases he
    obtain ⟨p2, hp2, hh, _⟩ := h.holds b (hS b ((bit_or _ _ _).2 (.inr rfl))) _ hb
    rw [hp] at hp2
    cases hp2
    have hget : (getObj p.1).run P w = .ok (.mapIter none a1 a2 a3) w := by simp only [getObj, Sem.run, hh]
    refine ⟨_, w, V, ?_, rfl, Step.touch h b⟩
    unfold Instr.next
    simp only [Sem.run_bind, hget, Result.andThen_ok]
    rfl
  · cases he
end
section
variable {P : Program}
/-- what an operation comes to -/
inductive OR where
  | val (x : AV)
  | skip
  | pan (x : AV)
  | call (f : FuncId) (args : List AV)
  | dfr (f : FuncId) (caps args : List AV)
  | rcv
def pureO (P : Program) (e : Operand → AV) (o : Oper) (m : Mem) : Option (OR × Mem) :=
  match pureE P e o with
  | .ok (.value v) => some (.val (.lit v), m)
  | .ok .skip => some (.skip, m)
  | .ok .recover => some (.rcv, m)
  | .ok (.enter f args) => some (.call f (args.toList.map .lit), m)
  | .pan v => some (.pan (.lit v), m)
  | _ => none
def valO (r : Option (AV × Mem)) : Option (OR × Mem) := match r with | some (x, m) => some (.val x, m) | none => none
def valM (r : Option AV) (m : Mem) : Option (OR × Mem) := match r with | some x => some (.val x, m) | none => none
def skipO (r : Option Mem) : Option (OR × Mem) := match r with | some m => some (.skip, m) | none => none
def isEqOp : BinOp → Bool
  | .eql | .neq => true
  | _ => false
def isNeq : BinOp → Bool
  | .neq => true
  | _ => false
def calleeOf (has : FuncId → Bool) (x : AV) (args : List AV) : Option (FuncId × List AV) :=
  match x with
  | .lit (.func (.func f) first caps) => if has f then some (f, first.toList.map .lit ++ args ++ caps.toList.map .lit) else none
  | .fn f pre caps => if has f then some (f, pre ++ args ++ caps) else none
  | _ => none
def callO (P : Program) (has : FuncId → Bool) (e : Operand → AV) (o : Oper) (c : Call) (m : Mem) : Option (OR × Mem) :=
  match c.callee with
  | .value f => match calleeOf has (e f) (c.args.toList.map e) with
    | some (f, args) => some (.call f args, m)
    | none => pureO P e o m
  | .builtin .len => match c.argTypes.toList, c.args.toList with
    | [t], [x] => match e x with
      | .lit _ => pureO P e o m
      | y => valO (lenE P t y m)
    | _, _ => none
  | .builtin .append => match c.argTypes.toList, c.args.toList with
    | [t, tx], [s, x] => valO (appendA P t tx (e s) (e x) m)
    | _, _ => none
  | .builtin .copy => match c.argTypes.toList, c.args.toList with
    | [t, _], [d, x] => valO (copyE P t (e d) (e x) m)
    | _, _ => none
  | .builtin .delete => match c.argTypes.toList, c.args.toList with
    | [t, _], [x, k] => match e x with
      | .lit _ => pureO P e o m
      | y => valO (deleteE P t y (e k) m)
    | _, _ => none
  | _ => pureO P e o m
def dfrO (has : FuncId → Bool) (e : Operand → AV) (c : Call) (m : Mem) : Option (OR × Mem) :=
  match c.callee with
  | .value f => match e f with
    | .lit (.func (.func g) first caps) => if has g then some (.dfr g (caps.toList.map .lit) (first.toList.map .lit ++ c.args.toList.map e), m) else none
    | .fn g pre caps => if has g then some (.dfr g caps (pre ++ c.args.toList.map e), m) else none
    | _ => none
  | _ => none
def opE (P : Program) (has : FuncId → Bool) (e : Operand → AV) (o : Oper) (m : Mem) : Option (OR × Mem) :=
  match o.op with
  | .move x | .assign x => some (.val (e x), m)
  | .pick c a b => match e c with
    | .lit (.bool t) => some (.val (if t then e a else e b), m)
    | _ => none
  | .alloc t => valO (allocE P t m)
  | .box t x => match (e x).cells with
    | some l => some (.val (boxE t l m).1, (boxE t l m).2)
    | none => none
  | .build t parts => valM (buildE P t (parts.toList.map fun (i, x) => (i, e x))) m
  | .buildSlice t len parts => valO (buildSliceE P t len (parts.toList.map fun (i, x) => (i, e x)) m)
  | .load t a => valO (loadE P t (e a) m)
  | .store t a x => skipO (storeE P t (e a) (e x) m)
  | .nilCheck x => match e x with
    | .ptr b off => some (.val (.ptr b off), m)
    | .fn f q l => some (.val (.fn f q l), m)
    | .lit _ => pureO P e o m
    | _ => none
  | .binOp op t x y _ => if isEqOp op = true ∧ nilEqE P t (e x) (e y) = true then some (.val (.lit (.bool (isNeq op))), m) else pureO P e o m
  | .convert s d x => match e x with
    | .sl b off len s' cap => if s = d then valO (selfE P s (.sl b off len s' cap) m) else valO (byteStrE P s d (.sl b off len s' cap) m)
    | y => match strE P s d y m with
      | some r => valO (some r)
      | none => pureO P e o m
  | .makeInterface t x => if P.concrete t = true then some (.val (mkIface t (e x)), m) else none
  | .makeFunc fn first caps => match fn with
    | .func f => match litsOf (first.toList.map e ++ caps.toList.map e) with
      | some _ => pureO P e o m
      | none => some (.val (.fn f (first.toList.map e) (caps.toList.map e)), m)
    | _ => pureO P e o m
  | .makeSlice t l c => valO (makeE P t (e l) (e c) m)
  | .slice t x lo hi mx => match e x with
    | .lit _ => pureO P e o m
    | y => valO (sliceE P t y (lo.map e) (hi.map e) (mx.map e) m)
  | .fieldAddr s x f => valM (fieldE P s (e x) f) m
  | .indexAddr t x i => valM (indexAddrE P t (e x) (e i)) m
  | .field t x f => match e x with
    | .lit _ => pureO P e o m
    | y => valM (fieldVE P t y f) m
  | .extract x i => match e x with
    | .lit _ => pureO P e o m
    | y => valM (extractE y i) m
  | .makeMap t r => valO (makeMapE P t (r.map e) m)
  | .lookup t x k ok => match e x with
    | .lit _ => pureO P e o m
    | y => valO (lookupE P t y (e k) ok m)
  | .mapUpdate t x k z | .insert t x k z => match e x with
    | .lit _ => pureO P e o m
    | y => skipO (updateE P t y (e k) (e z) m)
  | .range t x => valO (rangeE P t (e x) m)
  | .next x isS => valO (nextE (e x) isS m)
  | .call c => callO P has e o c m
  | .defer c => dfrO has e c m
  | _ => pureO P e o m
/-- what the run says of an operation, at a world -/
def Does (P : Program) (S : Nat → Prop) (V : Vl) (m : Mem) (w : World) (s : Sem Next) (m' : Mem) : OR → Prop
  | .val x => ∃ v w' V', s.run P w = .ok (.value v) w' ∧ x.is V' v ∧ Step S V m w V' m' w'
  | .skip => ∃ w' V', s.run P w = .ok .skip w' ∧ Step S V m w V' m' w'
  | .pan x => ∃ v, s.run P w = .halt (.panic v) w ∧ x.is V v ∧ m' = m
  | .call f args => ∃ vs, AV.are V args vs ∧ (s.run P w = (callFunc f vs.toArray).run P w ∨ s.run P w = .ok (.enter f vs.toArray) w) ∧ m' = m
  | .dfr f caps args => ∃ cs vs, AV.are V caps cs ∧ AV.are V args vs ∧ s.run P w = .ok (.defer { target := .fn (.func f) cs.toArray, args := vs.toArray }) w ∧ m' = m
  | .rcv => s.run P w = .ok .recover w ∧ m' = m
end
section
variable {P : Program}
theorem pureO_does {S : Nat → Prop} {V : Vl} {m m' : Mem} {w : World} {e : Operand → AV} {ρ : Operand → Value} {o : Oper} {r : OR} (h : Sat V S m w) (he : ∀ x, (e x).is V (ρ x)) (hr : pureO P e o m = some (r, m')) : Does P S V m w (execOp ρ o) m' r := by
  unfold pureO at hr
  split at hr
  · rename_i v hv
    cases hr
    have := pureE_eq he hv (by simp)
    exact ⟨v, w, V, pure_ok w _ _ this, rfl, Step.refl h⟩
  · rename_i hv
    cases hr
    exact ⟨w, V, pure_ok w _ _ (pureE_eq he hv (by simp)), Step.refl h⟩
  · rename_i hv
    cases hr
    exact ⟨pure_ok w _ _ (pureE_eq he hv (by simp)), rfl⟩
  · rename_i f args hv
    cases hr
    exact ⟨args.toList, are_lits _, .inr (by rw [Array.toArray_toList]; exact pure_ok w _ _ (pureE_eq he hv (by simp))), rfl⟩
  · rename_i v hv
    cases hr
    exact ⟨v, pure_pan w _ _ (pureE_eq he hv (by simp)), rfl, rfl⟩
  · cases hr
theorem pureO_fact {m m' : Mem} {e : Operand → AV} {o : Oper} {r : OR} (hr : pureO P e o m = some (r, m')) : Fact m m' := by
  unfold pureO at hr
  repeat' (split at hr)
  all_goals first | (cases hr; done) | (cases hr; exact Fact.refl m)
theorem valO_some {r : Option (AV × Mem)} {q : OR} {m' : Mem} (h : valO r = some (q, m')) : ∃ x, r = some (x, m') ∧ q = .val x := by
  unfold valO at h
  split at h
  · cases h; exact ⟨_, rfl, rfl⟩
  · cases h
theorem valM_some {r : Option AV} {q : OR} {m m' : Mem} (h : valM r m = some (q, m')) : ∃ x, r = some x ∧ q = .val x ∧ m' = m := by
  unfold valM at h
  split at h
  · cases h; exact ⟨_, rfl, rfl, rfl⟩
  · cases h
theorem skipO_some {r : Option Mem} {q : OR} {m' : Mem} (h : skipO r = some (q, m')) : r = some m' ∧ q = .skip := by
  unfold skipO at h
  split at h
  · cases h; exact ⟨rfl, rfl⟩
  · cases h
theorem Ran.val {S : Nat → Prop} {V : Vl} {m m' : Mem} {w : World} {s : Sem Value} {x : AV} (h : Ran P S V m w s x m') : Does P S V m w (do pure (.value (← s))) m' (.val x) := by
  obtain ⟨v, w', V', h1, h2, h3⟩ := h
  refine ⟨v, w', V', ?_, h2, h3⟩
  rw [Sem.run_bind, h1]
  rfl
theorem val_plain {S : Nat → Prop} {V : Vl} {m : Mem} {w : World} {s : Sem Value} {x : AV} (hs : Sat V S m w) (h : ∃ u, s.run P w = .ok u w ∧ x.is V u) : Does P S V m w (do pure (.value (← s))) m (.val x) := by
  obtain ⟨u, h1, h2⟩ := h
  exact Ran.val (Ran.same hs h1 h2)
theorem pairs_are {V : Vl} {e : Operand → AV} {ρ : Operand → Value} (he : ∀ x, (e x).is V (ρ x)) : ∀ (l : List (Nat × Operand)), pairsAre V (l.map fun (i, x) => (i, e x)) (l.map fun (i, x) => (i, ρ x))
  | [] => rfl
  | (i, x) :: l => ⟨ρ x, _, rfl, he x, pairs_are he l⟩
theorem args_are {V : Vl} {e : Operand → AV} {ρ : Operand → Value} (he : ∀ x, (e x).is V (ρ x)) : ∀ (l : List Operand), AV.are V (l.map e) (l.map ρ)
  | [] => rfl
  | x :: l => ⟨ρ x, _, rfl, he x, args_are he l⟩
theorem optIs_map {V : Vl} {e : Operand → AV} {ρ : Operand → Value} (he : ∀ x, (e x).is V (ρ x)) (x : Option Operand) : optIs V (x.map e) (x.map ρ) := by
  cases x with
  | none => trivial
  | some x => exact he x
theorem callee_run {V : Vl} {w : World} {has : FuncId → Bool} {x : AV} {v : Value} {args : List AV} {us : List Value} {f : FuncId} {l : List AV} (hx : x.is V v) (ha : AV.are V args us) (h : calleeOf has x args = some (f, l)) :
    has f = true ∧ ∃ vs, AV.are V l vs ∧ (do let d ← Deferred.ofValue v us.toArray; invoke d.target d.args : Sem Next).run P w = (callFunc f vs.toArray).run P w := by
  unfold calleeOf at h
  split at h
  · rename_i f' first caps
    split at h
    · rename_i hf
      cases h
      obtain rfl : v = .func (.func f) first caps := hx
      refine ⟨hf, _, AV.are_append (AV.are_append (are_lits _) ha) (are_lits _), ?_⟩
      rw [Sem.run_bind]
      simp only [Deferred.ofValue, Sem.run_pure, Result.andThen_ok, invoke]
      congr 2
      apply Array.ext'
      simp
    · cases h
  · rename_i f' pre caps
    split at h
    · rename_i hf
      cases h
      obtain ⟨qs, cs, hqs, hcs, rfl⟩ := hx
      refine ⟨hf, _, AV.are_append (AV.are_append hqs ha) hcs, ?_⟩
      rw [Sem.run_bind]
      simp only [Deferred.ofValue, Sem.run_pure, Result.andThen_ok, invoke]
      congr 2
      apply Array.ext'
      simp
    · cases h
  · cases h
end
section
variable {P : Program}
theorem two_of {α : Type} {a : Array α} {x y : α} (h : a.toList = [x, y]) : a = #[x, y] := by
  apply Array.ext'; exact h
theorem one_of {α : Type} {a : Array α} {x : α} (h : a.toList = [x]) : a = #[x] := by
  apply Array.ext'; exact h
theorem callO_does {S : Nat → Prop} {V : Vl} {m m' : Mem} {w : World} {has : FuncId → Bool} {e : Operand → AV} {ρ : Operand → Value} {o : Oper} {c : Call} {r : OR} (ho : o.op = .call c) (h : Sat V S m w) (he : ∀ x, (e x).is V (ρ x)) (hS : ∀ b, bit m'.T b → S b) (hf : Free V m m') (hr : callO P has e o c m = some (r, m')) : Does P S V m w (execOp ρ o) m' r := by
  have hx : execOp ρ o = (do let d ← resolve ρ c o.type; invoke d.target d.args) := by unfold execOp; simp only [ho]
  unfold callO at hr
  split at hr
  · rename_i f hc
    split at hr
    · rename_i g args hg
      cases hr
      obtain ⟨_, vs, h1, h2⟩ := callee_run (P := P) (w := w) (he f) (args_are he c.args.toList) hg
      refine ⟨vs, h1, .inl ?_, rfl⟩
      rw [← h2, hx]
      unfold resolve
      simp only [hc]
      congr 2
      rw [show (c.args.toList.map ρ).toArray = c.args.map ρ by apply Array.ext'; simp]
    · exact pureO_does h he hr
  · rename_i hc
    split at hr
    · rename_i t x ht hxs
      split at hr
      · exact pureO_does h he hr
      · obtain ⟨y, hy, rfl⟩ := valO_some hr
        have hran := len_ran (P := P) (ty := o.type) h (he x) hS hy
        obtain ⟨v, w', V', h1, h2, h3⟩ := hran
        refine ⟨v, w', V', ?_, h2, h3⟩
        rw [hx]
        unfold resolve
        simp only [hc]
        rw [one_of ht, one_of hxs]
        rw [Sem.run_bind]
        simp only [Sem.run_pure, Result.andThen_ok, invoke, builtin, List.map_toArray, List.map_cons, List.map_nil]
        rw [Sem.run_bind, h1]
        rfl
    · cases hr
  · rename_i hc
    split at hr
    · rename_i t tx s x ht hxs
      obtain ⟨y, hy, rfl⟩ := valO_some hr
      have hran := appendA_ran (P := P) (ty := o.type) h (he s) (he x) hS hf hy
      obtain ⟨v, w', V', h1, h2, h3⟩ := hran
      refine ⟨v, w', V', ?_, h2, h3⟩
      rw [hx]
      unfold resolve
      simp only [hc]
      rw [two_of ht, two_of hxs]
      rw [Sem.run_bind]
      simp only [Sem.run_pure, Result.andThen_ok, invoke, builtin, List.map_toArray, List.map_cons, List.map_nil]
      rw [Sem.run_bind, h1]
      rfl
    · cases hr
  · rename_i hc
    split at hr
    · rename_i t tx d x ht hxs
      obtain ⟨y, hy, rfl⟩ := valO_some hr
      have hran := copy_ran (P := P) (tx := tx) (ty := o.type) h (he d) (he x) hS hy
      obtain ⟨v, w', V', h1, h2, h3⟩ := hran
      refine ⟨v, w', V', ?_, h2, h3⟩
      rw [hx]
      unfold resolve
      simp only [hc]
      rw [two_of ht, two_of hxs]
      rw [Sem.run_bind]
      simp only [Sem.run_pure, Result.andThen_ok, invoke, builtin, List.map_toArray, List.map_cons, List.map_nil]
      rw [Sem.run_bind, h1]
      rfl
    · cases hr
  · rename_i hc
    split at hr
    · rename_i t tk x k ht hxs
      split at hr
      · exact pureO_does h he hr
      · obtain ⟨y, hy, rfl⟩ := valO_some hr
        have hran := delete_ran (P := P) (tk := tk) (ty := o.type) h (he x) (he k) hS hy
        obtain ⟨v, w', V', h1, h2, h3⟩ := hran
        refine ⟨v, w', V', ?_, h2, h3⟩
        rw [hx]
        unfold resolve
        simp only [hc]
        rw [two_of ht, two_of hxs]
        rw [Sem.run_bind]
        simp only [Sem.run_pure, Result.andThen_ok, invoke, builtin, List.map_toArray, List.map_cons, List.map_nil]
        rw [Sem.run_bind, h1]
        rfl
    · cases hr
  · exact pureO_does h he hr
theorem callO_fact {m m' : Mem} {has : FuncId → Bool} {e : Operand → AV} {o : Oper} {c : Call} {r : OR} (hr : callO P has e o c m = some (r, m')) : Fact m m' := by
  unfold callO at hr
  split at hr
  · split at hr
    · cases hr; exact Fact.refl m
    · exact pureO_fact hr
  · split at hr
    · split at hr
      · exact pureO_fact hr
      · obtain ⟨y, hy, rfl⟩ := valO_some hr
        exact len_fact hy
    · cases hr
  · split at hr
    · obtain ⟨y, hy, rfl⟩ := valO_some hr
      exact appendA_fact hy
    · cases hr
  · split at hr
    · obtain ⟨y, hy, rfl⟩ := valO_some hr
      exact copy_fact hy
    · cases hr
  · split at hr
    · split at hr
      · exact pureO_fact hr
      · obtain ⟨y, hy, rfl⟩ := valO_some hr
        exact delete_fact hy
    · cases hr
  · exact pureO_fact hr
theorem dfrO_does {S : Nat → Prop} {V : Vl} {m m' : Mem} {w : World} {has : FuncId → Bool} {e : Operand → AV} {ρ : Operand → Value} {o : Oper} {c : Call} {r : OR} (ho : o.op = .defer c) (h : Sat V S m w) (he : ∀ x, (e x).is V (ρ x)) (hr : dfrO has e c m = some (r, m')) : Does P S V m w (execOp ρ o) m' r := by
  have hx : execOp ρ o = (do pure (.defer (← resolve ρ c o.type))) := by unfold execOp; simp only [ho]
  unfold dfrO at hr
  split at hr
  case h_2 => cases hr
  rename_i f hc
  split at hr
  · rename_i g first caps hf
    split at hr
    · cases hr
      have hv : ρ f = .func (.func g) first caps := by have := he f; rw [hf] at this; exact this
      refine ⟨caps.toList, first.toList ++ c.args.toList.map ρ, are_lits _, AV.are_append (are_lits _) (args_are he _), ?_, rfl⟩
      rw [hx]
      unfold resolve
      simp only [hc, hv, Deferred.ofValue]
      rw [Sem.run_bind]
      simp only [Sem.run_pure, Result.andThen_ok]
      rw [Array.toArray_toList, show (first.toList ++ c.args.toList.map ρ).toArray = first ++ c.args.map ρ by apply Array.ext'; simp]
    · cases hr
  · rename_i g pre caps hf
    split at hr
    · cases hr
      have hv := he f
      rw [hf] at hv
      obtain ⟨qs, cs, hqs, hcs, hv⟩ := hv
      refine ⟨cs, qs ++ c.args.toList.map ρ, hcs, AV.are_append hqs (args_are he _), ?_, rfl⟩
      rw [hx]
      unfold resolve
      simp only [hc, hv, Deferred.ofValue]
      rw [Sem.run_bind]
      simp only [Sem.run_pure, Result.andThen_ok]
      rw [show (qs ++ c.args.toList.map ρ).toArray = qs.toArray ++ c.args.map ρ by apply Array.ext'; simp]
    · cases hr
  · cases hr
theorem dfrO_fact {m m' : Mem} {has : FuncId → Bool} {e : Operand → AV} {c : Call} {r : OR} (hr : dfrO has e c m = some (r, m')) : Fact m m' := by
  unfold dfrO at hr
  repeat' (split at hr)
  all_goals first | (cases hr; done) | (cases hr; exact Fact.refl m)
end
section
variable {P : Program}
theorem run_eqGuard (op : BinOp) (t : TypeId) (x y : Operand) (a b : Value) (w : World) (h1 : a ≠ .nilIface) (h2 : a.oneCell' = true) : (eqGuard op t x y a b).run P w = .ok () w := by
  unfold eqGuard
  cases op <;> first
    | rfl
    | (cases a <;> first | (exact absurd rfl h1) | (cases h2; done) | (cases b <;> rfl))
theorem binOp_nil {V : Vl} {w : World} {op : BinOp} {t : TypeId} {x y : AV} {v u : Value} (hop : isEqOp op = true) (hx : x.is V v) (hy : y.is V u) (h : nilEqE P t x y = true) : (binOp op t v u).run P w = .ok (.bool (isNeq op)) w := by
  have hr := (nilEq_ran (w := w) hx hy h).1
  have key : ∀ (s : Sem Value), (op = .eql → s = (do pure (.bool (← Op.equal t v u)))) → (op = .neq → s = (do pure (.bool (!(← Op.equal t v u))))) → s.run P w = .ok (.bool (isNeq op)) w := fun s h1 h2 => by
    cases op <;> first
      | (cases hop; done)
      | (rw [h1 rfl, Sem.run_bind, hr]; rfl)
      | (rw [h2 rfl, Sem.run_bind, hr]; rfl)
  unfold nilEqE at h
  split at h
  · obtain ⟨p, _, rfl⟩ := hx
    obtain rfl : u = .pointer none := hy
    exact key _ (fun h => by subst h; rfl) (fun h => by subst h; rfl)
  · rename_i a k hu
    obtain ⟨p, _, _, _, rfl, _⟩ := hx
    obtain rfl : u = .slice none a k := hy
    exact key _ (fun h => by subst h; rfl) (fun h => by subst h; rfl)
  · obtain ⟨p, _, rfl⟩ := hx
    obtain rfl : u = .map none := hy
    exact key _ (fun h => by subst h; rfl) (fun h => by subst h; rfl)
  · obtain ⟨_, p, _, _, rfl⟩ := hx
    obtain rfl : u = .nilFunc := hy
    exact key _ (fun h => by subst h; rfl) (fun h => by subst h; rfl)
  · obtain ⟨p, _, rfl⟩ := hx
    obtain rfl : u = .nilIface := hy
    exact key _ (fun h => by subst h; rfl) (fun h => by subst h; rfl)
  · cases h
theorem op_does {S : Nat → Prop} {V : Vl} {m m' : Mem} {w : World} {has : FuncId → Bool} {e : Operand → AV} {ρ : Operand → Value} {o : Oper} {r : OR} (h : Sat V S m w) (he : ∀ x, (e x).is V (ρ x)) (hS : ∀ b, bit m'.T b → S b) (hf : Free V m m') (hr : opE P has e o m = some (r, m')) : Does P S V m w (execOp ρ o) m' r := by
  unfold opE at hr
  split at hr
  · rename_i x ho
    cases hr
    exact ⟨ρ x, w, V, by unfold execOp; simp only [ho]; rfl, he x, Step.refl h⟩
  · rename_i x ho
    cases hr
    exact ⟨ρ x, w, V, by unfold execOp; simp only [ho]; rfl, he x, Step.refl h⟩
  · rename_i c a b ho
    split at hr
    · rename_i t hc
      cases hr
      have hv : ρ c = .bool t := by have := he c; rw [hc] at this; exact this
      refine ⟨if t then ρ a else ρ b, w, V, ?_, ?_, Step.refl h⟩
      · unfold execOp
        simp only [ho, hv]
        rw [Sem.run_bind]
        simp only [asBool, Sem.run_pure, Result.andThen_ok]
      · cases t
        · exact he b
        · exact he a
    · cases hr
  · rename_i t ho
    obtain ⟨y, hy, rfl⟩ := valO_some hr
    have := (alloc_ran h (hf m.next ⟨Nat.le_refl _, by
      unfold allocE at hy
      split at hy
      · cases hy; exact Nat.lt_succ_self _
      · cases hy⟩) hy).val
    unfold execOp
    simp only [ho]
    exact this
  · rename_i t x ho
    split at hr
    · rename_i l hl
      cases hr
      have := (box_ran (P := P) h (hf m.next ⟨Nat.le_refl _, Nat.lt_succ_self _⟩) t l (ρ x) (AV.cells_is hl (he x))).val
      unfold execOp
      simp only [ho]
      exact this
    · cases hr
  · rename_i t parts ho
    obtain ⟨y, hy, rfl, rfl⟩ := valM_some hr
    have := val_plain h (build_ran (w := w) (qs := parts.map fun (i, x) => (i, ρ x)) (by rw [Array.toList_map]; exact pairs_are he parts.toList) hy)
    unfold execOp
    simp only [ho]
    exact this
  · rename_i t len parts ho
    obtain ⟨y, hy, rfl⟩ := valO_some hr
    have := (buildSlice_ran (qs := parts.map fun (i, x) => (i, ρ x)) h (by rw [Array.toList_map]; exact pairs_are he parts.toList) hf hy).val
    unfold execOp
    simp only [ho]
    exact this
  · rename_i t a ho
    obtain ⟨y, hy, rfl⟩ := valO_some hr
    have := (load_ran h (he a) hS hy).val
    unfold execOp
    simp only [ho]
    exact this
  · rename_i t a x ho
    obtain ⟨hy, rfl⟩ := skipO_some hr
    obtain ⟨w', h1, h2⟩ := store_ran h (he a) (he x) hS hy
    refine ⟨w', V, ?_, h2⟩
    unfold execOp
    simp only [ho]
    rw [Sem.run_bind, h1]
    rfl
  · rename_i x ho
    split at hr
    · rename_i b off hx
      cases hr
      have hv := he x
      rw [hx] at hv
      obtain ⟨p, hp, hv⟩ := hv
      exact ⟨ρ x, w, V, by unfold execOp; simp only [ho, hv]; rfl, ⟨p, hp, hv⟩, Step.refl h⟩
    · rename_i f q l hx
      cases hr
      have hv := he x
      rw [hx] at hv
      obtain ⟨p0, p, hp0, hp, hv⟩ := hv
      exact ⟨ρ x, w, V, by unfold execOp; simp only [ho, hv]; rfl, ⟨p0, p, hp0, hp, hv⟩, Step.refl h⟩
    · exact pureO_does h he hr
    · cases hr
  · rename_i op t x y yt ho
    split at hr
    · rename_i hc
      obtain ⟨hop, hnil⟩ := hc
      cases hr
      obtain ⟨h1, h2, h3⟩ := nilEq_ran (w := w) (he x) (he y) hnil
      refine ⟨_, w, V, ?_, rfl, Step.refl h⟩
      unfold execOp
      simp only [ho]
      rw [Sem.run_bind, Sem.run_bind, run_eqGuard op t x y _ _ w h3 h2]
      simp only [Result.andThen_ok]
      have hb : (binOp op t (ρ x) (ρ y)).run P w = .ok (.bool (isNeq op)) w := binOp_nil hop (he x) (he y) hnil
      rw [hb]
      rfl
    · exact pureO_does h he hr
  · rename_i s d x ho
    split at hr
    · rename_i b off len s' cap hx
      split at hr
      · rename_i hsd
        subst hsd
        obtain ⟨y, hy, rfl⟩ := valO_some hr
        have := (self_ran h (by have := he x; rw [hx] at this; exact this) hS hy).val
        unfold execOp
        simp only [ho]
        exact this
      · obtain ⟨y, hy, rfl⟩ := valO_some hr
        have := (byteStr_ran h (by have := he x; rw [hx] at this; exact this) hS hy).val
        unfold execOp
        simp only [ho]
        exact this
    · split at hr
      · rename_i r' hr'
        obtain ⟨y, hy, rfl⟩ := valO_some hr
        cases hy
        have := (str_ran h (he x) hf hr').val
        unfold execOp
        simp only [ho]
        exact this
      · exact pureO_does h he hr
  · rename_i t x ho
    split at hr
    · rename_i hc
      cases hr
      refine ⟨_, w, V, ?_, mkIface_is (he x), Step.refl h⟩
      unfold execOp
      simp only [ho]
      rw [Sem.run_bind, run_makeInterface w t (ρ x) hc]
      rfl
    · cases hr
  · rename_i fn first caps ho
    split at hr
    · rename_i f
      split at hr
      · exact pureO_does h he hr
      · cases hr
        refine ⟨.func (.func f) (first.map ρ) (caps.map ρ), w, V, ?_, ⟨first.toList.map ρ, caps.toList.map ρ, args_are he _, args_are he _, ?_⟩, Step.refl h⟩
        · unfold execOp
          simp only [ho]
          rw [Sem.run_bind]
          simp only [Instr.makeFunc, Sem.run_pure, Result.andThen_ok]
        · rw [show (caps.toList.map ρ).toArray = caps.map ρ by apply Array.ext'; simp, show (first.toList.map ρ).toArray = first.map ρ by apply Array.ext'; simp]
    · exact pureO_does h he hr
  · rename_i t l c ho
    obtain ⟨y, hy, rfl⟩ := valO_some hr
    have := (make_ran h (he l) (he c) hf hy).val
    unfold execOp
    simp only [ho]
    exact this
  · rename_i t x lo hi mx ho
    split at hr
    · exact pureO_does h he hr
    · obtain ⟨y, hy, rfl⟩ := valO_some hr
      have := (slice_ran h (he x) (optIs_map he lo) (optIs_map he hi) (optIs_map he mx) hS hy).val
      unfold execOp
      simp only [ho]
      exact this
  · rename_i s x f ho
    obtain ⟨y, hy, rfl, rfl⟩ := valM_some hr
    have := val_plain h (field_ran (w := w) (he x) hy)
    unfold execOp
    simp only [ho]
    exact this
  · rename_i t x i ho
    obtain ⟨y, hy, rfl, rfl⟩ := valM_some hr
    have := val_plain h (indexAddr_ran (w := w) (he x) (he i) hy)
    unfold execOp
    simp only [ho]
    exact this
  · rename_i t x f ho
    split at hr
    · exact pureO_does h he hr
    · obtain ⟨y, hy, rfl, rfl⟩ := valM_some hr
      have := val_plain h (fieldV_ran (w := w) (he x) hy)
      unfold execOp
      simp only [ho]
      exact this
  · rename_i x i ho
    split at hr
    · exact pureO_does h he hr
    · obtain ⟨y, hy, rfl, rfl⟩ := valM_some hr
      have := val_plain h (extract_ran (P := P) (w := w) (he x) hy)
      unfold execOp
      simp only [ho]
      exact this
  · rename_i t r' ho
    obtain ⟨y, hy, rfl⟩ := valO_some hr
    have := (makeMap_ran h (optIs_map he r') hf hy).val
    unfold execOp
    simp only [ho]
    exact this
  · rename_i t x k ok ho
    split at hr
    · exact pureO_does h he hr
    · obtain ⟨y, hy, rfl⟩ := valO_some hr
      have := (lookup_ran h (he x) (he k) hS hy).val
      unfold execOp
      simp only [ho]
      exact this
  · rename_i t x k z ho
    split at hr
    · exact pureO_does h he hr
    · obtain ⟨hy, rfl⟩ := skipO_some hr
      obtain ⟨w', h1, h2⟩ := update_ran h (he x) (he k) (he z) hS hy
      refine ⟨w', V, ?_, h2⟩
      unfold execOp
      simp only [ho]
      rw [Sem.run_bind, h1]
      rfl
  · rename_i t x k z ho
    split at hr
    · exact pureO_does h he hr
    · obtain ⟨hy, rfl⟩ := skipO_some hr
      obtain ⟨w', h1, h2⟩ := update_ran h (he x) (he k) (he z) hS hy
      refine ⟨w', V, ?_, h2⟩
      unfold execOp
      simp only [ho]
      rw [Sem.run_bind, h1]
      rfl
  · rename_i t x ho
    obtain ⟨y, hy, rfl⟩ := valO_some hr
    have := (range_ran h (he x) hf hy).val
    unfold execOp
    simp only [ho]
    exact this
  · rename_i x isS ho
    obtain ⟨y, hy, rfl⟩ := valO_some hr
    have := (next_ran (P := P) (t := o.type) h (he x) hS hy).val
    unfold execOp
    simp only [ho]
    exact this
  · rename_i c ho
    exact callO_does ho h he hS hf hr
  · rename_i c ho
    exact dfrO_does ho h he hr
  · exact pureO_does h he hr
theorem op_fact {m m' : Mem} {has : FuncId → Bool} {e : Operand → AV} {o : Oper} {r : OR} (hr : opE P has e o m = some (r, m')) : Fact m m' := by
  unfold opE at hr
  split at hr
  · cases hr; exact Fact.refl m
  · cases hr; exact Fact.refl m
  · split at hr
    · cases hr; exact Fact.refl m
    · cases hr
  · obtain ⟨y, hy, rfl⟩ := valO_some hr
    unfold allocE at hy
    split at hy
    · cases hy; exact Fact.new _ _
    · cases hy
  · split at hr
    · cases hr; exact Fact.new _ _
    · cases hr
  · obtain ⟨y, hy, rfl, rfl⟩ := valM_some hr; exact Fact.refl _
  · obtain ⟨y, hy, rfl⟩ := valO_some hr; exact buildSlice_fact hy
  · obtain ⟨y, hy, rfl⟩ := valO_some hr; exact load_fact hy
  · obtain ⟨hy, rfl⟩ := skipO_some hr; exact store_fact hy
  · split at hr
    · cases hr; exact Fact.refl m
    · cases hr; exact Fact.refl m
    · exact pureO_fact hr
    · cases hr
  · split at hr
    · cases hr; exact Fact.refl m
    · exact pureO_fact hr
  · split at hr
    · split at hr
      · obtain ⟨y, hy, rfl⟩ := valO_some hr; exact self_fact hy
      · obtain ⟨y, hy, rfl⟩ := valO_some hr; exact byteStr_fact hy
    · split at hr
      · rename_i r' hr'
        obtain ⟨y, hy, rfl⟩ := valO_some hr
        cases hy
        exact str_fact hr'
      · exact pureO_fact hr
  · split at hr
    · cases hr; exact Fact.refl m
    · cases hr
  · split at hr
    · split at hr
      · exact pureO_fact hr
      · cases hr; exact Fact.refl m
    · exact pureO_fact hr
  · obtain ⟨y, hy, rfl⟩ := valO_some hr; exact make_fact hy
  · split at hr
    · exact pureO_fact hr
    · obtain ⟨y, hy, rfl⟩ := valO_some hr; exact slice_fact hy
  · obtain ⟨y, hy, rfl, rfl⟩ := valM_some hr; exact Fact.refl _
  · obtain ⟨y, hy, rfl, rfl⟩ := valM_some hr; exact Fact.refl _
  · split at hr
    · exact pureO_fact hr
    · obtain ⟨y, hy, rfl, rfl⟩ := valM_some hr; exact Fact.refl _
  · split at hr
    · exact pureO_fact hr
    · obtain ⟨y, hy, rfl, rfl⟩ := valM_some hr; exact Fact.refl _
  · obtain ⟨y, hy, rfl⟩ := valO_some hr; exact makeMap_fact hy
  · split at hr
    · exact pureO_fact hr
    · obtain ⟨y, hy, rfl⟩ := valO_some hr; exact lookup_fact hy
  · split at hr
    · exact pureO_fact hr
    · obtain ⟨hy, rfl⟩ := skipO_some hr; exact update_fact hy
  · split at hr
    · exact pureO_fact hr
    · obtain ⟨hy, rfl⟩ := skipO_some hr; exact update_fact hy
  · obtain ⟨y, hy, rfl⟩ := valO_some hr; exact range_fact hy
  · obtain ⟨y, hy, rfl⟩ := valO_some hr; exact next_fact hy
  · exact callO_fact hr
  · exact dfrO_fact hr
  · exact pureO_fact hr
end
section
variable {P : Program}
theorem pureE_congr {e e' : Operand → AV} {o : Oper} (h : ∀ x ∈ o.op.operands, e x = e' x) : pureE P e o = pureE P e' o := by
  have h1 : o.op.operands.toList.all (fun x => (e x).isLit) = o.op.operands.toList.all (fun x => (e' x).isLit) := by
    rw [Bool.eq_iff_iff, List.all_eq_true, List.all_eq_true]
    exact ⟨fun k x hx => by rw [← h x (Array.mem_toList_iff.1 hx)]; exact k x hx, fun k x hx => by rw [h x (Array.mem_toList_iff.1 hx)]; exact k x hx⟩
  unfold pureE
  rw [h1]
  split
  · rename_i hc
    congr 1
    exact execOp_congr o (fun cs b hs => by rw [hs] at hc; cases hc.1) fun x hx => by rw [h x hx]
  · rfl
theorem pureO_congr {e e' : Operand → AV} {o : Oper} {m : Mem} (h : ∀ x ∈ o.op.operands, e x = e' x) : pureO P e o m = pureO P e' o m := by
  unfold pureO; rw [pureE_congr h]
theorem map_congr' {e e' : Operand → AV} {l : List Operand} (h : ∀ x ∈ l, e x = e' x) : l.map e = l.map e' := List.map_congr_left h
theorem opE_congr {has : FuncId → Bool} {e e' : Operand → AV} {o : Oper} {m : Mem} (h : ∀ x ∈ o.op.operands, e x = e' x) : opE P has e o m = opE P has e' o m := by
  have hp : pureO P e o m = pureO P e' o m := pureO_congr h
  unfold opE
  cases ho : o.op with
  | move x => simp only; rw [h x (by rw [ho]; simp [Op.operands])]
  | assign x => simp only; rw [h x (by rw [ho]; simp [Op.operands])]
  | pick c a b => simp only; rw [h c (by rw [ho]; simp [Op.operands]), h a (by rw [ho]; simp [Op.operands]), h b (by rw [ho]; simp [Op.operands])]
  | alloc t => rfl
  | box t x => simp only; rw [h x (by rw [ho]; simp [Op.operands])]
  | build t parts =>
    have : (parts.toList.map fun (i, x) => (i, e x)) = (parts.toList.map fun (i, x) => (i, e' x)) := List.map_congr_left fun p hp => by
      show (p.1, e p.2) = (p.1, e' p.2)
      rw [h p.2 (by rw [ho]; simp only [Op.operands]; exact List.mem_toArray.2 (List.mem_map.2 ⟨p, hp, rfl⟩))]
    simp only [this]
  | buildSlice t len parts =>
    have : (parts.toList.map fun (i, x) => (i, e x)) = (parts.toList.map fun (i, x) => (i, e' x)) := List.map_congr_left fun p hp => by
      show (p.1, e p.2) = (p.1, e' p.2)
      rw [h p.2 (by rw [ho]; simp only [Op.operands]; exact List.mem_toArray.2 (List.mem_map.2 ⟨p, hp, rfl⟩))]
    simp only [this]
  | load t a => simp only; rw [h a (by rw [ho]; simp [Op.operands])]
  | store t a x => simp only; rw [h a (by rw [ho]; simp [Op.operands]), h x (by rw [ho]; simp [Op.operands])]
  | nilCheck x => simp only; rw [h x (by rw [ho]; simp [Op.operands]), hp]
  | binOp op t x y yt => simp only; rw [h x (by rw [ho]; simp [Op.operands]), h y (by rw [ho]; simp [Op.operands]), hp]
  | convert s d x => simp only; rw [h x (by rw [ho]; simp [Op.operands]), hp]
  | makeInterface t x => simp only; rw [h x (by rw [ho]; simp [Op.operands])]
  | makeFunc fn first caps =>
    have : caps.toList.map e = caps.toList.map e' := map_congr' fun x hx => h x (by rw [ho]; simp [Op.operands]; exact .inr (Array.mem_toList_iff.1 hx))
    have h2 : first.toList.map e = first.toList.map e' := map_congr' fun x hx => h x (by rw [ho]; simp [Op.operands]; exact .inl (Array.mem_toList_iff.1 hx))
    simp only [this, h2, hp]
  | makeSlice t l c => simp only; rw [h l (by rw [ho]; simp [Op.operands]), h c (by rw [ho]; simp [Op.operands])]
  | slice t x lo hi mx =>
    have h1 : lo.map e = lo.map e' := by cases lo with
      | none => rfl
      | some y => simp only [Option.map_some]; rw [h y (by rw [ho]; simp [Op.operands])]
    have h2 : hi.map e = hi.map e' := by cases hi with
      | none => rfl
      | some y => simp only [Option.map_some]; rw [h y (by rw [ho]; simp [Op.operands])]
    have h3 : mx.map e = mx.map e' := by cases mx with
      | none => rfl
      | some y => simp only [Option.map_some]; rw [h y (by rw [ho]; simp [Op.operands])]
    simp only; rw [h x (by rw [ho]; simp [Op.operands]), hp, h1, h2, h3]
  | fieldAddr s x f => simp only; rw [h x (by rw [ho]; simp [Op.operands])]
  | indexAddr t x i => simp only; rw [h x (by rw [ho]; simp [Op.operands]), h i (by rw [ho]; simp [Op.operands])]
  | field t x f => simp only; rw [h x (by rw [ho]; simp [Op.operands]), hp]
  | extract x i => simp only; rw [h x (by rw [ho]; simp [Op.operands]), hp]
  | makeMap t r =>
    have h1 : r.map e = r.map e' := by cases r with
      | none => rfl
      | some y => simp only [Option.map_some]; rw [h y (by rw [ho]; simp [Op.operands])]
    simp only; rw [h1]
  | lookup t x k ok => simp only; rw [h x (by rw [ho]; simp [Op.operands]), h k (by rw [ho]; simp [Op.operands]), hp]
  | mapUpdate t x k z => simp only; rw [h x (by rw [ho]; simp [Op.operands]), h k (by rw [ho]; simp [Op.operands]), h z (by rw [ho]; simp [Op.operands]), hp]
  | insert t x k z => simp only; rw [h x (by rw [ho]; simp [Op.operands]), h k (by rw [ho]; simp [Op.operands]), h z (by rw [ho]; simp [Op.operands]), hp]
  | range t x => simp only; rw [h x (by rw [ho]; simp [Op.operands])]
  | next x isS => simp only; rw [h x (by rw [ho]; simp [Op.operands])]
  | call c =>
    have ha : ∀ x ∈ c.args.toList, e x = e' x := fun x hx => h x (by rw [ho]; simp [Op.operands, Call.operands]; exact .inr (Array.mem_toList_iff.1 hx))
    have hm := map_congr' ha
    simp only
    unfold callO
    cases hc : c.callee with
    | value f => simp only; rw [h f (by rw [ho]; simp [Op.operands, Call.operands, hc]), hm, hp]
    | invoke r n => simp only; rw [hp]
    | builtin b =>
      cases b <;> simp only [hp]
      all_goals
        split
        · rename_i h1 h2
          rw [h2] at ha
          simp only [List.mem_cons, List.not_mem_nil, or_false, forall_eq_or_imp, forall_eq] at ha
          simp [ha, hp]
        · rfl
  | defer c =>
    have ha : ∀ x ∈ c.args.toList, e x = e' x := fun x hx => h x (by rw [ho]; simp [Op.operands, Call.operands]; exact .inr (Array.mem_toList_iff.1 hx))
    have hm := map_congr' ha
    simp only
    unfold dfrO
    cases hc : c.callee with
    | value f => simp only; rw [h f (by rw [ho]; simp [Op.operands, Call.operands, hc]), hm]
    | invoke r n => rfl
    | builtin b => rfl
  | _ => simp only [hp]
end
end Go.Proofs.Ytmomdfmilelilaa.Ev
