/-
  A disk in memory: its struct, its map, its files, their bytes, its loose changes; what each kind of write leaves of it. A disk in memory: the contracts of ready, find, step, IsName, New.
-/
import Derived.Test.YtihbgigledmliaaJst
import Derived.Maps.OwnSet
namespace Go.Proofs.Ytihbgigledmliaa
open Go.RowKit Go.Maps
set_option linter.unusedVariables false
abbrev DU := DataW Unit
/-- how a pointer to a file reads: its block -/
def fileR : Value → Option (DU × List MemPlace)
  | .pointer none => some (.nil, [])
  | .pointer (some ⟨b, 0, none⟩) => some (.lit (.int .u64 (b : Int)), [])
  | _ => none
theorem fileR_ptr (b : Nat) : fileR (.pointer (some ⟨b, 0, none⟩)) = some (.lit (.int .u64 (b : Int)), []) := rfl
theorem fileR_inv {v : Value} {d : DU} {ps : List MemPlace} (h : fileR v = some (d, ps)) : (v = .pointer none ∧ d = .nil) ∨ ∃ b : Nat, v = .pointer (some ⟨b, 0, none⟩) ∧ d = .lit (.int .u64 (b : Int)) := by
  unfold fileR at h
  split at h
  · cases h; exact .inl ⟨rfl, rfl⟩
  · cases h; exact .inr ⟨_, rfl, rfl⟩
  · cases h
/-- a file: its name, its slice, its bytes -/
structure Fil where
  nm : ByteArray
  row : Value
  zs : List Nat
/-- a loose change -/
structure Chg where
  kind : Int
  file : Nat
  size : Int
  name : ByteArray
  repl : Option Nat
def Chg.cells (c : Chg) : List Value := [.int .i64 c.kind, .pointer (some ⟨c.file, 0, none⟩), .int .i64 c.size, .string c.name, .pointer (c.repl.map fun b => ⟨b, 0, none⟩)]
def keyS (s : ByteArray) : Lit := .string s.data.toList
theorem keyS_inj {s t : ByteArray} (h : keyS s = keyS t) : s = t := by
  unfold keyS at h
  have := Lit.string.inj h
  cases s; cases t
  congr 1
  exact Array.toList_inj.1 this
structure Dsk where
  room : Int
  used : Int
  fuse : Int
  down : Bool
  mb : Option Nat
  D : DU
  n : Nat
  fl : Nat → Option Fil
  lv : Value
  loose : List Chg
/-- the block of the file with this name -/
def Dsk.at (S : Dsk) (s : ByteArray) : Option Nat := match S.D.atKey (keyS s) .nil with
  | .lit (.int _ b) => some b.toNat
  | _ => none
def dskCells (S : Dsk) : Array Value := #[.int .i64 S.room, .map S.mb, .int .i64 S.used, S.lv, .int .i64 S.fuse, .bool S.down]
def filCells (f : Fil) : Array Value := #[.string f.nm, f.row]
/-- all but the struct -/
structure DKr (B : Nat) (S : Dsk) (w : World) : Prop where
  hm : (S.mb = none ∧ S.D = .map []) ∨ ∃ b, S.mb = some b ∧ B ≤ b ∧ w.ownsMap Try.prog 9 fileR b S.n S.D
  hf : ∀ b f, S.fl b = some f → B ≤ b ∧ w.heap[b]? = some (.cells (filCells f) 122 (0, 0)) ∧ Own w B f.row f.zs ∧ (∀ z ∈ f.zs, z < 256)
  ha : ∀ b c f g k, S.fl b = some f → S.fl c = some g → f.row.ownBlock = some k → g.row.ownBlock = some k → b = c
  hr : ∀ s : ByteArray, Maps.has S.D (keyS s) = false ∨ ∃ (b : Nat) (f : Fil), S.D.atKey (keyS s) .nil = .lit (.int .u64 (b : Int)) ∧ S.fl b = some f ∧ f.nm = s
  hl : w.ownsRow B 126 5 S.lv S.loose.length (S.loose.flatMap Chg.cells)
  hc : ∀ c ∈ S.loose, (∃ f, S.fl c.file = some f) ∧ ∀ b, c.repl = some b → ∃ f, S.fl b = some f
structure DK (B d : Nat) (S : Dsk) (w : World) : Prop where
  base : B ≤ d
  hd : w.heap[d]? = some (.cells (dskCells S) 53 (0, 0))
  rest : DKr B S w
/-- the blocks beside the struct -/
def Dsk.ownR (S : Dsk) (k : Nat) : Prop := S.mb = some k ∨ (∃ f, S.fl k = some f) ∨ (∃ b f, S.fl b = some f ∧ f.row.ownBlock = some k) ∨ S.lv.ownBlock = some k
def Dsk.own (S : Dsk) (d k : Nat) : Prop := k = d ∨ S.ownR k
theorem row_keep {w w' : World} {B : Nat} {e : TypeId} {size n : Nat} {v : Value} {xs : List Value} (h : w.ownsRow B e size v n xs) (hk : ∀ k, v.ownBlock = some k → w'.heap[k]? = w.heap[k]?) : w'.ownsRow B e size v n xs := by
  refine ⟨h.1, ?_⟩
  rcases h.2 with hn | ⟨g, cap, cur, rfl, hb, hg, r⟩
  · exact .inl hn
  · exact .inr ⟨g, cap, cur, rfl, hb, (hk g rfl).trans hg, r⟩
theorem row_block {w : World} {B : Nat} {e : TypeId} {size n : Nat} {v : Value} {xs : List Value} (h : w.ownsRow B e size v n xs) {k : Nat} (hk : v.ownBlock = some k) : B ≤ k ∧ ∃ cur, w.heap[k]? = some (.cells cur e (0, 0)) := by
  rcases h.2 with ⟨rfl, _⟩ | ⟨g, cap, cur, rfl, hb, hg, r⟩
  · cases hk
  · have e : g = k := by simpa [Value.ownBlock] using hk
    subst e
    exact ⟨hb, cur, hg⟩
theorem map_keep {w w' : World} {b n : Nat} {D : DU} (h : w.ownsMap Try.prog 9 fileR b n D) (hk : w'.heap[b]? = w.heap[b]?) : w'.ownsMap Try.prog 9 fileR b n D := by
  obtain ⟨es, clock, hb, r⟩ := h
  exact ⟨es, clock, hk.trans hb, r⟩
theorem map_block {w : World} {b n : Nat} {D : DU} (h : w.ownsMap Try.prog 9 fileR b n D) : ∃ es clock, w.heap[b]? = some (.map es clock) := by
  obtain ⟨es, clock, hb, r⟩ := h
  exact ⟨es, clock, hb⟩
theorem DKr.keep {B : Nat} {S : Dsk} {w w' : World} (h : DKr B S w) (hk : ∀ k, S.ownR k → w'.heap[k]? = w.heap[k]?) : DKr B S w' where
  hm := by
    rcases h.hm with h0 | ⟨b, h1, h2, h3⟩
    · exact .inl h0
    · exact .inr ⟨b, h1, h2, map_keep h3 (hk b (.inl h1))⟩
  hf := fun b f hb => by
    obtain ⟨h1, h2, h3, h4⟩ := h.hf b f hb
    exact ⟨h1, (hk b (.inr (.inl ⟨f, hb⟩))).trans h2, row_keep h3 fun k hr => hk k (.inr (.inr (.inl ⟨b, f, hb, hr⟩))), h4⟩
  ha := h.ha
  hr := h.hr
  hl := row_keep h.hl fun k hr => hk k (.inr (.inr (.inr hr)))
  hc := h.hc
/-- what kind of block it is -/
theorem DKr.kind {B : Nat} {S : Dsk} {w : World} (h : DKr B S w) {k : Nat} (hk : S.ownR k) : B ≤ k ∧ k < w.heap.size ∧ ∀ C fr, w.heap[k]? ≠ some (.cells C 53 fr) := by
  have lt : ∀ {o}, w.heap[k]? = some o → k < w.heap.size := fun ho => (Array.getElem?_eq_some_iff.1 ho).1
  rcases hk with h1 | ⟨f, hf⟩ | ⟨b, f, hf, hr⟩ | hl
  · rcases h.hm with ⟨h0, _⟩ | ⟨b, h2, h3, h4⟩
    · rw [h0] at h1; cases h1
    · rw [h1] at h2
      cases h2
      obtain ⟨es, cl, hh⟩ := map_block h4
      exact ⟨h3, lt hh, fun C fr he => by rw [hh] at he; cases he⟩
  · obtain ⟨h1, h2, _⟩ := h.hf k f hf
    exact ⟨h1, lt h2, fun C fr he => by rw [h2] at he; simp only [Option.some.injEq, Obj.cells.injEq] at he; exact absurd he.2.1 (by decide)⟩
  · obtain ⟨_, _, h3, _⟩ := h.hf b f hf
    obtain ⟨h1, cur, hh⟩ := row_block h3 hr
    exact ⟨h1, lt hh, fun C fr he => by rw [hh] at he; simp only [Option.some.injEq, Obj.cells.injEq] at he; exact absurd he.2.1 (by decide)⟩
  · obtain ⟨h1, cur, hh⟩ := row_block h.hl hl
    exact ⟨h1, lt hh, fun C fr he => by rw [hh] at he; simp only [Option.some.injEq, Obj.cells.injEq] at he; exact absurd he.2.1 (by decide)⟩
theorem DK.lt {B d : Nat} {S : Dsk} {w : World} (h : DK B d S w) : d < w.heap.size := (Array.getElem?_eq_some_iff.1 h.hd).1
theorem DK.ne {B d : Nat} {S : Dsk} {w : World} (h : DK B d S w) {k : Nat} (hk : S.ownR k) : k ≠ d := fun e => by subst e; exact (h.rest.kind hk).2.2 _ _ h.hd
theorem DK.ownLt {B d : Nat} {S : Dsk} {w : World} (h : DK B d S w) {k : Nat} (hk : S.own d k) : B ≤ k ∧ k < w.heap.size := by
  rcases hk with rfl | hk
  · exact ⟨h.base, h.lt⟩
  · exact ⟨(h.rest.kind hk).1, (h.rest.kind hk).2.1⟩
theorem DK.keep {B d : Nat} {S : Dsk} {w w' : World} (h : DK B d S w) (hk : ∀ k, S.own d k → w'.heap[k]? = w.heap[k]?) : DK B d S w' := ⟨h.base, (hk d (.inl rfl)).trans h.hd, h.rest.keep fun k hr => hk k (.inr hr)⟩
theorem DK.below {B d : Nat} {S : Dsk} {w w' : World} (h : DK B d S w) (hb : Below w.heap.size w w') : DK B d S w' := h.keep fun k hk => hb.block k (h.ownLt hk).2
theorem DK.alloc {B d : Nat} {S : Dsk} {w : World} (h : DK B d S w) (o : Obj) : DK B d S (w.alloc o) := h.below ((Below.refl _ _).alloc (Nat.le_refl _) o)
/-- the struct alone is written: numbers, the power -/
theorem DK.struct {B d : Nat} {S S' : Dsk} {w w' : World} (h : DK B d S w) (hh : w'.heap[d]? = some (.cells (dskCells S') 53 (0, 0))) (ho : ∀ k, k ≠ d → k < w.heap.size → w'.heap[k]? = w.heap[k]?) (e : S' = { S with room := S'.room, used := S'.used, fuse := S'.fuse, down := S'.down }) : DK B d S' w' := by
  have hr : DKr B S w' := h.rest.keep fun k hk => ho k (h.ne hk) (h.rest.kind hk).2.1
  rw [e] at hh ⊢
  exact ⟨h.base, hh, hr.hm, hr.hf, hr.ha, hr.hr, hr.hl, hr.hc⟩
/-- what is not the disk's stands -/
structure Mov (S : Dsk) (d : Nat) (S' : Dsk) (w w' : World) : Prop where
  os : w'.os = w.os
  tape : w'.tape = w.tape
  output : w'.output = w.output
  size : w.heap.size ≤ w'.heap.size
  block : ∀ k, k < w.heap.size → ¬ S.own d k → w'.heap[k]? = w.heap[k]?
  own : ∀ k, S'.own d k → S.own d k ∨ w.heap.size ≤ k
theorem Mov.refl (S : Dsk) (d : Nat) (w : World) : Mov S d S w w := ⟨rfl, rfl, rfl, Nat.le_refl _, fun _ _ _ => rfl, fun _ h => .inl h⟩
theorem Mov.trans {S S1 S2 : Dsk} {d : Nat} {w w1 w2 : World} (h : Mov S d S1 w w1) (k : Mov S1 d S2 w1 w2) : Mov S d S2 w w2 :=
  ⟨k.os.trans h.os, k.tape.trans h.tape, k.output.trans h.output, Nat.le_trans h.size k.size, fun j hj hn => (k.block j (Nat.lt_of_lt_of_le hj h.size) fun ho => by
      rcases h.own j ho with h1 | h1
      · exact hn h1
      · omega).trans (h.block j hj hn), fun j hj => by
      rcases k.own j hj with h1 | h1
      · exact h.own j h1
      · exact .inr (Nat.le_trans h.size h1)⟩
theorem Mov.below {S S' : Dsk} {B d : Nat} {w w' : World} (h : Mov S d S' w w') (hd : DK B d S w) : Below B w w' :=
  ⟨h.os, h.tape, h.output, h.size, fun k hk => h.block k (Nat.lt_of_lt_of_le hk (Nat.le_trans hd.base (Nat.le_of_lt hd.lt))) fun ho => by have := (hd.ownLt ho).1; omega⟩
theorem Mov.ofBelow {S : Dsk} {d : Nat} {w w' : World} (hb : Below w.heap.size w w') : Mov S d S w w' := ⟨hb.os, hb.tape, hb.output, hb.size, fun k hk _ => hb.block k hk, fun _ h => .inl h⟩
end Go.Proofs.Ytihbgigledmliaa
namespace Go.Proofs.Ytihbgigledmliaa
open Go.RowKit Go.Maps
set_option linter.unusedVariables false
theorem mapLaw : Keyed Try.prog 9 := string_keyed Try.underlying9
theorem zeroFile (w : World) : (zeroValue 118).run Try.prog w = .ok (.pointer none) w := by kernel_rfl
theorem keyOk {s : ByteArray} (hs : s.size ≤ maxLen) : keyOf Try.prog 9 (.string s) = some (keyS s) := Go.WideMaps.keyOf_string_mk Try.underlying9 hs
def ptrOf (b : Option Nat) : Value := .pointer (b.map fun b => ⟨b, 0, none⟩)
theorem DKr.at {B : Nat} {S : Dsk} {w : World} (h : DKr B S w) {s : ByteArray} {b : Nat} (hb : S.at s = some b) : ∃ f, S.fl b = some f ∧ f.nm = s := by
  unfold Dsk.at at hb
  rcases h.hr s with h0 | ⟨c, f, h1, h2, h3⟩
  · rw [atKey_of_not_has h0] at hb; cases hb
  · rw [h1] at hb
    have e : c = b := by simpa using hb
    subst e
    exact ⟨f, h2, h3⟩
theorem DKr.look {B : Nat} {S : Dsk} {w : World} (h : DKr B S w) {s : ByteArray} (hs : s.size ≤ maxLen) : (Instr.lookup 50 (.map S.mb) (.string s) false).run Try.prog w = .ok (ptrOf (S.at s)) w := by
  rcases h.hm with ⟨h1, h2⟩ | ⟨b, h1, _, h3⟩
  · rw [h1]
    have := Maps.look_nil (P := Try.prog) (w := w) false mapLaw Try.underlying50 (zeroFile w) (keyOk hs)
    rw [this]
    have e : S.at s = none := by unfold Dsk.at; rw [h2]; rfl
    rw [e]
    rfl
  · rw [h1]
    obtain ⟨v, ps, hrun, hv⟩ := h3.lookup mapLaw Try.underlying50 (zeroFile w) (zd := .nil) (zp := []) rfl (keyOk hs)
    rw [hrun]
    unfold Dsk.at
    rcases fileR_inv hv with ⟨rfl, hd⟩ | ⟨c, rfl, hd⟩
    · rw [hd]; rfl
    · rw [hd]; simp [ptrOf]
theorem DKr.len {B : Nat} {S : Dsk} {w : World} (h : DKr B S w) (ty : TypeId) : (Builtin.len_ #[50] ty #[.map S.mb]).run Try.prog w = .ok (.int .i64 (Maps.size S.D)) w := by
  rcases h.hm with ⟨h1, h2⟩ | ⟨b, h1, _, h3⟩
  · rw [h1, h2, Maps.len_nil Try.underlying50]
    rfl
  · rw [h1]
    exact h3.len Try.underlying50 ty
theorem DK.cells {B d : Nat} {S : Dsk} {w : World} (h : DK B d S w) : w.cell? ⟨d, 0, none⟩ = some (.int .i64 S.room) ∧ w.cell? ⟨d, 1, none⟩ = some (.map S.mb) ∧ w.cell? ⟨d, 2, none⟩ = some (.int .i64 S.used) ∧ w.cell? ⟨d, 3, none⟩ = some S.lv ∧ w.cell? ⟨d, 4, none⟩ = some (.int .i64 S.fuse) ∧ w.cell? ⟨d, 5, none⟩ = some (.bool S.down) := by
  have k : ∀ i, w.cell? ⟨d, i, none⟩ = (dskCells S)[i]? := fun i => cell_of_row w d i _ _ _ h.hd
  exact ⟨(k 0).trans rfl, (k 1).trans rfl, (k 2).trans rfl, (k 3).trans rfl, (k 4).trans rfl, (k 5).trans rfl⟩
theorem DKr.fcells {B : Nat} {S : Dsk} {w : World} (h : DKr B S w) {b : Nat} {f : Fil} (hf : S.fl b = some f) : w.cell? ⟨b, 0, none⟩ = some (.string f.nm) ∧ w.cell? ⟨b, 1, none⟩ = some f.row := by
  have hh := (h.hf b f hf).2.1
  have k : ∀ i, w.cell? ⟨b, i, none⟩ = (filCells f)[i]? := fun i => cell_of_row w b i _ _ _ hh
  exact ⟨(k 0).trans rfl, (k 1).trans rfl⟩
set_option maxRecDepth 100000 in
theorem dready_c {B d : Nat} {S : Dsk} {w : World} (h : DK B d S w) : Calls Try.prog 70 #[.pointer (some ⟨d, 0, none⟩)] w fun e w' => e = .returned (.int .i64 (if S.down then 5 else 0)) ∧ w' = w := by
  have c5 := h.cells.2.2.2.2.2
  clear h
  cases hd : S.down with
  | true =>
    rw [hd] at c5
    go_enter Try.func70, Try.ntmps70
    go_wp2
    go_ret
    exact ⟨rfl, rfl⟩
  | false =>
    rw [hd] at c5
    go_enter Try.func70, Try.ntmps70
    go_wp2
    go_ret
    exact ⟨rfl, rfl⟩
/-- what find answers -/
def Dsk.find (S : Dsk) (s : ByteArray) : Option Nat × Int := if S.down then (none, 5) else match S.at s with
  | none => (none, 6)
  | some b => (some b, 0)
set_option maxRecDepth 100000 in
theorem dfind_c {B d : Nat} {S : Dsk} {w : World} (h : DK B d S w) (s : ByteArray) (hs : s.size ≤ maxLen) : Calls Try.prog 69 #[.pointer (some ⟨d, 0, none⟩), .string s] w fun e w' => e = .returned (.tuple #[ptrOf (S.find s).1, .int .i64 (S.find s).2]) ∧ w' = w := by
  have c1 := h.cells.2.1
  have hlk := h.rest.look hs
  have HR := Lib.hid (dready_c h)
  clear h
  unfold Dsk.find
  cases hd : S.down with
  | true =>
    rw [hd] at HR
    go_enter Try.func69, Try.ntmps69
    go_wp2_with fail
    refine HR.out.mono ?_
    rintro e1 w1 ⟨rfl, rfl⟩
    go_wp2_with fail
    go_ret2
    exact ⟨rfl, rfl⟩
  | false =>
    rw [hd] at HR
    cases ha : S.at s with
    | none =>
      rw [ha] at hlk
      simp only [ptrOf, Option.map_none] at hlk
      go_enter Try.func69, Try.ntmps69
      go_wp2_with fail
      refine HR.out.mono ?_
      rintro e1 w1 ⟨rfl, rfl⟩
      go_wp2_with fail
      go_ret2
      exact ⟨rfl, rfl⟩
    | some b =>
      rw [ha] at hlk
      simp only [ptrOf, Option.map_some] at hlk
      go_enter Try.func69, Try.ntmps69
      go_wp2_with fail
      refine HR.out.mono ?_
      rintro e1 w1 ⟨rfl, rfl⟩
      go_wp2_with fail
      go_ret2
      exact ⟨rfl, rfl⟩
/-- what a step does -/
def Dsk.step (S : Dsk) : Dsk × Int := if S.fuse = 0 then ({ S with down := true }, 5) else if 0 < S.fuse then ({ S with fuse := wrap64 (S.fuse - 1) }, 0) else (S, 0)
set_option maxRecDepth 100000 in
theorem dstep_c {B d : Nat} {S : Dsk} {w : World} (h : DK B d S w) : Calls Try.prog 71 #[.pointer (some ⟨d, 0, none⟩)] w fun e w' => e = .returned (.int .i64 S.step.2) ∧ DK B d S.step.1 w' ∧ Mov S d S.step.1 w w' := by
  have c4 := h.cells.2.2.2.2.1
  have c5 := h.cells.2.2.2.2.2
  have hfz : ∀ i, w.frozen? ⟨d, i, none⟩ = false := fun i => frozen_of_row w d i _ _ h.hd
  have f4 := hfz 4
  have f5 := hfz 5
  have HD := Lib.hid h
  have mk : ∀ (i : Nat) (v : Value) (S' : Dsk), (dskCells S).setIfInBounds i v = dskCells S' → i < 6 → S' = { S with room := S'.room, used := S'.used, fuse := S'.fuse, down := S'.down } → S'.mb = S.mb ∧ S'.fl = S.fl ∧ S'.lv = S.lv → DK B d S' (w.setCell ⟨d, i, none⟩ v) ∧ Mov S d S' w (w.setCell ⟨d, i, none⟩ v) := by
    intro i v S' he hi e ⟨e1, e2, e3⟩
    have hh := row_set HD.out.hd v (o := i) hi
    rw [he] at hh
    have ho : ∀ k, k ≠ d → (w.setCell ⟨d, i, none⟩ v).heap[k]? = w.heap[k]? := fun k hk => Below.heap_setCell w ⟨d, i, none⟩ v k hk
    exact ⟨HD.out.struct hh (fun k hk _ => ho k hk) e, rfl, rfl, rfl, by simp [World.setCell], fun k hk hn => ho k fun e => hn (.inl e), fun k hk => .inl (by unfold Dsk.own Dsk.ownR at hk ⊢; rw [e1, e2, e3] at hk; exact hk)⟩
  have HM := Lib.hid mk
  clear h hfz mk
  unfold Dsk.step
  by_cases h0 : S.fuse = 0
  · rw [if_pos h0]
    rw [h0] at c4
    clear h0
    go_enter Try.func71, Try.ntmps71
    go_wp2_with fail
    go_ret
    exact ⟨rfl, HM.out 5 (.bool true) { S with down := true } rfl (by omega) rfl ⟨rfl, rfl, rfl⟩⟩
  · rw [if_neg h0]
    have e0 : (S.fuse == 0) = false := beq_eq_false_iff_ne.2 h0
    by_cases h1 : 0 < S.fuse
    · rw [if_pos h1]
      go_enter Try.func71, Try.ntmps71
      go_wp2_with fail
      go_ret
      exact ⟨rfl, HM.out 4 _ { S with fuse := wrap64 (S.fuse - 1) } rfl (by omega) rfl ⟨rfl, rfl, rfl⟩⟩
    · rw [if_neg h1]
      go_enter Try.func71, Try.ntmps71
      go_wp2_with fail
      go_ret
      exact ⟨rfl, HD.out, Mov.refl _ _ _⟩
set_option maxRecDepth 100000 in
theorem isname_c (s : ByteArray) (w : World) (hs : s.size ≤ maxLen) : Calls Try.prog 33 #[.string s] w fun e w' => e = .returned (.bool (decide (1 ≤ s.size) && decide (s.size ≤ 160))) ∧ w' = w := by
  unfold maxLen at hs
  by_cases h1 : 1 ≤ s.size
  · by_cases h2 : s.size ≤ 160
    · rw [decide_eq_true h1, decide_eq_true h2]
      have i1 : (1 : Int) ≤ (s.size : Int) := by omega
      have i2 : (s.size : Int) ≤ 160 := by omega
      go_enter Try.func33, Try.ntmps33
      go_wp2_with fail
      go_ret
      exact ⟨rfl, rfl⟩
    · rw [decide_eq_true h1, decide_eq_false h2]
      have i1 : (1 : Int) ≤ (s.size : Int) := by omega
      have i2 : ¬ (s.size : Int) ≤ 160 := by omega
      go_enter Try.func33, Try.ntmps33
      go_wp2_with fail
      go_ret
      exact ⟨rfl, rfl⟩
  · rw [decide_eq_false h1]
    have i1 : ¬ (1 : Int) ≤ (s.size : Int) := by omega
    go_enter Try.func33, Try.ntmps33
    go_wp2_with fail
    go_ret
    exact ⟨rfl, rfl⟩
/-- a new disk -/
def newS (room : Int) : Dsk := ⟨room, 0, -1, false, none, .map [], 0, fun _ => none, .slice none 0 0, []⟩
theorem newS_row (w : World) (B : Nat) (room : Int) : DKr B (newS room) w where
  hm := .inl ⟨rfl, rfl⟩
  hf := fun b f h => by cases h
  ha := fun b c f g k h => by cases h
  hr := fun s => .inl rfl
  hl := World.ownsRow_nil _ _ _ _
  hc := fun c h => by cases h
set_option maxRecDepth 100000 in
theorem dnew_c (room : Int) (w : World) (h0 : 0 ≤ room) (h1 : room ≤ 67108864) : Calls Try.prog 4 #[.int .i64 room] w fun e w' => e = .returned (.tuple #[.pointer (some ⟨w.heap.size, 0, none⟩), .int .i64 0]) ∧ DK w.heap.size w.heap.size (newS room) w' ∧ Below w.heap.size w w' := by
  have i0 : ¬ room < 0 := by omega
  have i1 : ¬ 67108864 < room := by omega
  go_enter Try.func4, Try.ntmps4
  go_wp2_with fail
  go_ret2
  exact ⟨rfl, ⟨Nat.le_refl _, heap_alloc_new w _, newS_row _ _ _⟩, (Below.refl _ _).alloc (Nat.le_refl _) _⟩
end Go.Proofs.Ytihbgigledmliaa
