/-
  A disk in memory: the contracts of ready, find, step, IsName, New.
-/
import Derived.Test.YtmomdfmilelilaaDka
namespace Go.Proofs.Ytmomdfmilelilaa
open Go.RowKit Go.Maps
set_option linter.unusedVariables false
theorem mapLaw : Keyed Try.prog 9 := string_keyed Try.underlying9
theorem zeroFile (w : World) : (zeroValue 88).run Try.prog w = .ok (.pointer none) w := by kernel_rfl
theorem keyOk {s : ByteArray} (hs : s.size ≤ maxLen) : keyOf Try.prog 9 (.string s) = some (keyS s) := Go.WideMaps.keyOf_string_mk Try.underlying9 hs
def ptrOf (b : Option Nat) : Value := .pointer (b.map fun b => ⟨b, 0, none⟩)
theorem DKr.at {B : Nat} {S : Dsk} {w : World} (h : DKr B S w) {s : ByteArray} {b : Nat} (hb : S.at s = some b) : ∃ f, S.fl b = some f ∧ f.nm = s := by
  unfold Dsk.at at hb
  rcases h.hr s with h0 | ⟨c, f, h1, h2, h3⟩
  · rw [atKey_of_not_has h0] at hb; cases hb
  · rw [h1] at hb
    have e : c = b := by simpa using hb
    subst e
    exact ⟨f, h2, h3⟩
theorem DKr.look {B : Nat} {S : Dsk} {w : World} (h : DKr B S w) {s : ByteArray} (hs : s.size ≤ maxLen) : (Instr.lookup 73 (.map S.mb) (.string s) false).run Try.prog w = .ok (ptrOf (S.at s)) w := by
  rcases h.hm with ⟨h1, h2⟩ | ⟨b, h1, _, h3⟩
  · rw [h1]
    have := Maps.look_nil (P := Try.prog) (w := w) false mapLaw Try.underlying73 (zeroFile w) (keyOk hs)
    rw [this]
    have e : S.at s = none := by unfold Dsk.at; rw [h2]; rfl
    rw [e]
    rfl
  · rw [h1]
    obtain ⟨v, ps, hrun, hv⟩ := h3.lookup mapLaw Try.underlying73 (zeroFile w) (zd := .nil) (zp := []) rfl (keyOk hs)
    rw [hrun]
    unfold Dsk.at
    rcases fileR_inv hv with ⟨rfl, hd⟩ | ⟨c, rfl, hd⟩
    · rw [hd]; rfl
    · rw [hd]; simp [ptrOf]
theorem DKr.len {B : Nat} {S : Dsk} {w : World} (h : DKr B S w) (ty : TypeId) : (Builtin.len_ #[73] ty #[.map S.mb]).run Try.prog w = .ok (.int .i64 (Maps.size S.D)) w := by
  rcases h.hm with ⟨h1, h2⟩ | ⟨b, h1, _, h3⟩
  · rw [h1, h2, Maps.len_nil Try.underlying73]
    rfl
  · rw [h1]
    exact h3.len Try.underlying73 ty
theorem DK.cells {B d : Nat} {S : Dsk} {w : World} (h : DK B d S w) : w.cell? ⟨d, 0, none⟩ = some (.int .i64 S.room) ∧ w.cell? ⟨d, 1, none⟩ = some (.map S.mb) ∧ w.cell? ⟨d, 2, none⟩ = some (.int .i64 S.used) ∧ w.cell? ⟨d, 3, none⟩ = some S.lv ∧ w.cell? ⟨d, 4, none⟩ = some (.int .i64 S.fuse) ∧ w.cell? ⟨d, 5, none⟩ = some (.bool S.down) := by
  have k : ∀ i, w.cell? ⟨d, i, none⟩ = (dskCells S)[i]? := fun i => cell_of_row w d i _ _ _ h.hd
  exact ⟨(k 0).trans rfl, (k 1).trans rfl, (k 2).trans rfl, (k 3).trans rfl, (k 4).trans rfl, (k 5).trans rfl⟩
theorem DKr.fcells {B : Nat} {S : Dsk} {w : World} (h : DKr B S w) {b : Nat} {f : Fil} (hf : S.fl b = some f) : w.cell? ⟨b, 0, none⟩ = some (.string f.nm) ∧ w.cell? ⟨b, 1, none⟩ = some f.row := by
  have hh := (h.hf b f hf).2.1
  have k : ∀ i, w.cell? ⟨b, i, none⟩ = (filCells f)[i]? := fun i => cell_of_row w b i _ _ _ hh
  exact ⟨(k 0).trans rfl, (k 1).trans rfl⟩
set_option maxRecDepth 100000 in
theorem dready_c {B d : Nat} {S : Dsk} {w : World} (h : DK B d S w) : Calls Try.prog 44 #[.pointer (some ⟨d, 0, none⟩)] w fun e w' => e = .returned (.int .i64 (if S.down then 5 else 0)) ∧ w' = w := by
  have c5 := h.cells.2.2.2.2.2
  clear h
  cases hd : S.down with
  | true =>
    rw [hd] at c5
    go_enter Try.func44, Try.ntmps44
    go_wp2
    go_ret
    exact ⟨rfl, rfl⟩
  | false =>
    rw [hd] at c5
    go_enter Try.func44, Try.ntmps44
    go_wp2
    go_ret
    exact ⟨rfl, rfl⟩
/-- what find answers -/
def Dsk.find (S : Dsk) (s : ByteArray) : Option Nat × Int := if S.down then (none, 5) else match S.at s with
  | none => (none, 6)
  | some b => (some b, 0)
set_option maxRecDepth 100000 in
theorem dfind_c {B d : Nat} {S : Dsk} {w : World} (h : DK B d S w) (s : ByteArray) (hs : s.size ≤ maxLen) : Calls Try.prog 72 #[.pointer (some ⟨d, 0, none⟩), .string s] w fun e w' => e = .returned (.tuple #[ptrOf (S.find s).1, .int .i64 (S.find s).2]) ∧ w' = w := by
  have c1 := h.cells.2.1
  have hlk := h.rest.look hs
  have HR := Lib.hid (dready_c h)
  clear h
  unfold Dsk.find
  cases hd : S.down with
  | true =>
    rw [hd] at HR
    go_enter Try.func72, Try.ntmps72
    go_wp2_with fail
    refine HR.out.mono ?_
    rintro e1 w1 ⟨rfl, rfl⟩
    go_wp2_with fail
    go_ret2
    exact ⟨rfl, rfl⟩
  | false =>
    rw [hd] at HR
    cases ha : S.at s with
    | none =>
      rw [ha] at hlk
      simp only [ptrOf, Option.map_none] at hlk
      go_enter Try.func72, Try.ntmps72
      go_wp2_with fail
      refine HR.out.mono ?_
      rintro e1 w1 ⟨rfl, rfl⟩
      go_wp2_with fail
      go_ret2
      exact ⟨rfl, rfl⟩
    | some b =>
      rw [ha] at hlk
      simp only [ptrOf, Option.map_some] at hlk
      go_enter Try.func72, Try.ntmps72
      go_wp2_with fail
      refine HR.out.mono ?_
      rintro e1 w1 ⟨rfl, rfl⟩
      go_wp2_with fail
      go_ret2
      exact ⟨rfl, rfl⟩
/-- what a step does -/
def Dsk.step (S : Dsk) : Dsk × Int := if S.fuse = 0 then ({ S with down := true }, 5) else if 0 < S.fuse then ({ S with fuse := wrap64 (S.fuse - 1) }, 0) else (S, 0)
set_option maxRecDepth 100000 in
theorem dstep_c {B d : Nat} {S : Dsk} {w : World} (h : DK B d S w) : Calls Try.prog 73 #[.pointer (some ⟨d, 0, none⟩)] w fun e w' => e = .returned (.int .i64 S.step.2) ∧ DK B d S.step.1 w' ∧ Mov S d S.step.1 w w' := by
  have c4 := h.cells.2.2.2.2.1
  have c5 := h.cells.2.2.2.2.2
  have hfz : ∀ i, w.frozen? ⟨d, i, none⟩ = false := fun i => frozen_of_row w d i _ _ h.hd
  have f4 := hfz 4
  have f5 := hfz 5
  have HD := Lib.hid h
  have mk : ∀ (i : Nat) (v : Value) (S' : Dsk), (dskCells S).setIfInBounds i v = dskCells S' → i < 6 → S' = { S with room := S'.room, used := S'.used, fuse := S'.fuse, down := S'.down } → S'.mb = S.mb ∧ S'.fl = S.fl ∧ S'.lv = S.lv → DK B d S' (w.setCell ⟨d, i, none⟩ v) ∧ Mov S d S' w (w.setCell ⟨d, i, none⟩ v) := by
    intro i v S' he hi e ⟨e1, e2, e3⟩
    have hh := row_set HD.out.hd v (o := i) hi
    rw [he] at hh
    have ho : ∀ k, k ≠ d → (w.setCell ⟨d, i, none⟩ v).heap[k]? = w.heap[k]? := fun k hk => Below.heap_setCell w ⟨d, i, none⟩ v k hk
    exact ⟨HD.out.struct hh (fun k hk _ => ho k hk) e, rfl, rfl, rfl, by simp [World.setCell], fun k hk hn => ho k fun e => hn (.inl e), fun k hk => .inl (by unfold Dsk.own Dsk.ownR at hk ⊢; rw [e1, e2, e3] at hk; exact hk)⟩
  have HM := Lib.hid mk
  clear h hfz mk
  unfold Dsk.step
  by_cases h0 : S.fuse = 0
  · rw [if_pos h0]
    rw [h0] at c4
    clear h0
    go_enter Try.func73, Try.ntmps73
    go_wp2_with fail
    go_ret
    exact ⟨rfl, HM.out 5 (.bool true) { S with down := true } rfl (by omega) rfl ⟨rfl, rfl, rfl⟩⟩
  · rw [if_neg h0]
    have e0 : (S.fuse == 0) = false := beq_eq_false_iff_ne.2 h0
    by_cases h1 : 0 < S.fuse
    · rw [if_pos h1]
      go_enter Try.func73, Try.ntmps73
      go_wp2_with fail
      go_ret
      exact ⟨rfl, HM.out 4 _ { S with fuse := wrap64 (S.fuse - 1) } rfl (by omega) rfl ⟨rfl, rfl, rfl⟩⟩
    · rw [if_neg h1]
      go_enter Try.func73, Try.ntmps73
      go_wp2_with fail
      go_ret
      exact ⟨rfl, HD.out, Mov.refl _ _ _⟩
set_option maxRecDepth 100000 in
theorem isname_c (s : ByteArray) (w : World) (hs : s.size ≤ maxLen) : Calls Try.prog 36 #[.string s] w fun e w' => e = .returned (.bool (decide (1 ≤ s.size) && decide (s.size ≤ 160))) ∧ w' = w := by
  unfold maxLen at hs
  by_cases h1 : 1 ≤ s.size
  · by_cases h2 : s.size ≤ 160
    · rw [decide_eq_true h1, decide_eq_true h2]
      have i1 : (1 : Int) ≤ (s.size : Int) := by omega
      have i2 : (s.size : Int) ≤ 160 := by omega
      go_enter Try.func36, Try.ntmps36
      go_wp2_with fail
      go_ret
      exact ⟨rfl, rfl⟩
    · rw [decide_eq_true h1, decide_eq_false h2]
      have i1 : (1 : Int) ≤ (s.size : Int) := by omega
      have i2 : ¬ (s.size : Int) ≤ 160 := by omega
      go_enter Try.func36, Try.ntmps36
      go_wp2_with fail
      go_ret
      exact ⟨rfl, rfl⟩
  · rw [decide_eq_false h1]
    have i1 : ¬ (1 : Int) ≤ (s.size : Int) := by omega
    go_enter Try.func36, Try.ntmps36
    go_wp2_with fail
    go_ret
    exact ⟨rfl, rfl⟩
/-- a new disk -/
def newS (room : Int) : Dsk := ⟨room, 0, -1, false, none, .map [], 0, fun _ => none, .slice none 0 0, []⟩
theorem newS_row (w : World) (B : Nat) (room : Int) : DKr B (newS room) w where
  hm := .inl ⟨rfl, rfl⟩
  hf := fun b f h => by cases h
  ha := fun b c f g k h => by cases h
  hr := fun s => .inl rfl
  hl := World.ownsRow_nil _ _ _ _
  hc := fun c h => by cases h
set_option maxRecDepth 100000 in
theorem dnew_c (room : Int) (w : World) (h0 : 0 ≤ room) (h1 : room ≤ 67108864) : Calls Try.prog 6 #[.int .i64 room] w fun e w' => e = .returned (.tuple #[.pointer (some ⟨w.heap.size, 0, none⟩), .int .i64 0]) ∧ DK w.heap.size w.heap.size (newS room) w' ∧ Below w.heap.size w w' := by
  have i0 : ¬ room < 0 := by omega
  have i1 : ¬ 67108864 < room := by omega
  go_enter Try.func6, Try.ntmps6
  go_wp2_with fail
  go_ret2
  exact ⟨rfl, ⟨Nat.le_refl _, heap_alloc_new w _, newS_row _ _ _⟩, (Below.refl _ _).alloc (Nat.le_refl _) _⟩
end Go.Proofs.Ytmomdfmilelilaa
