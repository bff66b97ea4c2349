/-
  A disk of the program and the document's disk, side by side in memory: what a call of either leaves.
-/
import Derived.Test.YtcjlbonflecbkaaRfl
import Derived.Test.YtcjlbonflecbkaaDkw
import Derived.Test.YtcjlbonflecbkaaDnn
namespace Go.Proofs.Ytcjlbonflecbkaa
open Go.RowKit
set_option linter.unusedVariables false
/-- what is told of the document's disk alone -/
structure Gd (A : Ad) : Prop where
  srt : Srt A.now
  used : usedF A.now ≤ 67108864
  r0 : 0 ≤ A.room
  r1 : A.room ≤ 67108864
  fuse : A.fuse ≤ 9223372036854775807
  ok : ∀ k o, A.loose[k]? = some o → Okc 67108864 ((A.loose.take k).foldl doF A.sure) o
  all : A.loose.foldl doF A.sure = A.now
  nm : ∀ s z, lookF A.now s = some z → s.size ≤ 160
theorem RA.gd {B d N : Nat} {S : Dsk} {A : Ad} {w : World} (h : DK B d S w) (r : RA N S A) : Gd A := by
  refine ⟨r.chn.ab.srt, r.uR, r.r0, r.r1, by have := r.fuse; have := r.fb; omega, fun k o hk => ?_, ?_, fun s z hz => ?_⟩
  · obtain ⟨h1, h2⟩ := Chn.all A.loose r.chn k o hk
    refine ⟨h1, fun h0 => ?_⟩
    obtain ⟨z, hz, h3⟩ := h2 h0
    refine ⟨z, hz, fun h4 => ?_⟩
    obtain ⟨h5, h6⟩ := h3 h4
    have := r.r0
    have := r.r1
    exact ⟨by omega, h6⟩
  · rw [r.chn.fold, List.foldr_reverse]
  · cases e : S.at s with
    | none => rw [r.none e] at hz; cases hz
    | some b => exact at_small h r s (by rw [e]; rfl)
/-- how many files and loose changes there may be -/
def Bnd (k : Nat) (A : Ad) : Prop := A.sure.length + A.loose.length ≤ k
theorem Gd.now {A : Ad} {k : Nat} (h : Gd A) (hb : Bnd k A) : A.now.length ≤ k := by
  rw [← h.all]
  exact Nat.le_trans (length_fold _ _) hb
theorem Bnd.step {A : Ad} {k : Nat} (h : Bnd k A) (c : DCh) : Bnd (k + 1) (A.step c).1 := by
  unfold Bnd at h ⊢
  unfold Ad.step
  split
  · exact Nat.le_succ_of_le h
  · split
    · exact Nat.le_succ_of_le h
    · split
      · exact Nat.le_succ_of_le h
      · show A.sure.length + (A.loose ++ [c]).length ≤ k + 1
        rw [List.length_append, List.length_singleton]
        omega
theorem Bnd.sync {A : Ad} {k : Nat} (h : Bnd k A) (g : Gd A) : Bnd (k + 1) A.sync.1 := by
  have hn := g.now h
  unfold Bnd at h ⊢
  unfold Ad.sync
  split
  · exact Nat.le_succ_of_le h
  · split
    · exact Nat.le_succ_of_le h
    · show A.now.length + 0 ≤ k + 1
      omega
theorem Bnd.crash {A : Ad} {k : Nat} (h : Bnd k A) (g : Gd A) (x y : Int) : Bnd (k + 1) (A.crash x y) := by
  have hn := g.now h
  unfold Bnd at h ⊢
  show (A.fin x y).length + 0 ≤ k + 1
  unfold Ad.fin
  split
  · omega
  · rename_i o ho
    have hl := (List.getElem?_eq_some_iff.1 ho).1
    have h1 := length_fold (A.loose.take (min (max x 0) (A.loose.length : Int)).toNat) A.sure
    rw [List.length_take] at h1
    split
    · have h2 := length_doF ((A.loose.take (min (max x 0) (A.loose.length : Int)).toNat).foldl doF A.sure) { o with p := o.p.take (min (max y 0) 1048576).toNat }
      omega
    · omega
theorem Bnd.fused {A : Ad} {k : Nat} (h : Bnd k A) (n : Int) : Bnd k (A.fused n).1 := by
  unfold Bnd at h ⊢
  unfold Ad.fused
  split <;> exact h
theorem Bnd.mono {A : Ad} {k j : Nat} (h : Bnd k A) (hk : k ≤ j) : Bnd j A := Nat.le_trans h hk
/-- both disks; X: blocks that others may write -/
structure Rel (X : Nat → Prop) (B d m N : Nat) (A1 A2 : Ad) (w : World) : Prop where
  ex : ∃ S lv, DK B d S w ∧ RA N S A1 ∧ RDK (fun j => S.own d j ∨ X j) B m lv A2 w ∧ ∀ j, X j → ¬ S.own d j
  lt : ∀ j, X j → B ≤ j ∧ j < w.heap.size
theorem Rel.gd {X : Nat → Prop} {B d m N : Nat} {A1 A2 : Ad} {w : World} (h : Rel X B d m N A1 A2 w) : Gd A1 := by
  obtain ⟨S, lv, h1, h2, _⟩ := h.ex
  exact h2.gd h1
theorem Rel.mono {X : Nat → Prop} {B d m N M : Nat} {A1 A2 : Ad} {w : World} (h : Rel X B d m N A1 A2 w) (hM : N ≤ M) : Rel X B d m M A1 A2 w := by
  obtain ⟨S, lv, h1, h2, h3, h4⟩ := h.ex
  exact ⟨⟨S, lv, h1, h2.mono hM, h3, h4⟩, h.lt⟩
theorem Rel.base {X : Nat → Prop} {B d m N : Nat} {A1 A2 : Ad} {w : World} (h : Rel X B d m N A1 A2 w) : B ≤ d ∧ d < w.heap.size ∧ B ≤ m ∧ m < w.heap.size := by
  obtain ⟨S, lv, h1, h2, h3, h4⟩ := h.ex
  exact ⟨h1.base, h1.lt, h3.base, h3.lt⟩
/-- others write; other blocks are theirs -/
theorem Rel.more {X Y : Nat → Prop} {B d m N : Nat} {A1 A2 : Ad} {w w' : World} (h : Rel X B d m N A1 A2 w) (hb : Sta X w w') (hY : ∀ j, Y j → X j ∨ w.heap.size ≤ j) (hlt : ∀ j, Y j → B ≤ j ∧ j < w'.heap.size) : Rel Y B d m N A1 A2 w' := by
  obtain ⟨S, lv, h1, h2, h3, h4⟩ := h.ex
  refine ⟨⟨S, lv, h1.keep fun k hk => hb.blk k (h1.ownLt hk).2 fun hx => h4 k hx hk, h2, h3.sta ⟨hb.size, fun k hk hn => hb.blk k hk fun hx => hn (.inr hx)⟩ (fun j hj => ?_), fun j hj ho => ?_⟩, hlt⟩
  · rcases hj with hj | hj
    · exact .inl (.inl hj)
    · rcases hY j hj with h5 | h5
      · exact .inl (.inr h5)
      · exact .inr h5
  · rcases hY j hj with h5 | h5
    · exact h4 j h5 ho
    · have := (h1.ownLt ho).2; omega
theorem Rel.below {X : Nat → Prop} {B d m N : Nat} {A1 A2 : Ad} {w w' : World} (h : Rel X B d m N A1 A2 w) (hb : Below w.heap.size w w') : Rel X B d m N A1 A2 w' := h.more (Sta.ofBelow hb) (fun _ hj => .inl hj) fun j hj => ⟨(h.lt j hj).1, Nat.lt_of_lt_of_le (h.lt j hj).2 hb.size⟩
/-- what others may write, a call of a disk leaves as it was -/
def KpX (X : Nat → Prop) (w w' : World) : Prop := ∀ j, X j → w'.heap[j]? = w.heap[j]?
theorem KpX.refl (X : Nat → Prop) (w : World) : KpX X w w := fun _ _ => rfl
theorem KpX.trans {X : Nat → Prop} {w w1 w2 : World} (h : KpX X w w1) (k : KpX X w1 w2) : KpX X w w2 := fun j hj => (k j hj).trans (h j hj)
theorem KpX.less {X Y : Nat → Prop} {w w' : World} (h : KpX X w w') (hy : ∀ j, Y j → X j) : KpX Y w w' := fun j hj => h j (hy j hj)
theorem KpX.ofBelow {X : Nat → Prop} {w w' : World} (hb : Below w.heap.size w w') (hx : ∀ j, X j → j < w.heap.size) : KpX X w w' := fun j hj => hb.block j (hx j hj)
/-- a call of the program -/
theorem Rel.prog {X : Nat → Prop} {B d m N N' : Nat} {A1 A1' A2 : Ad} {w : World} (h : Rel X B d m N A1 A2 w) {f : FuncId} {xs : Array Value} {v : Value}
    (hc : ∀ S, DK B d S w → RA N S A1 → (∀ j, X j → ¬ S.own d j) → Calls Try.prog f xs w fun e w' => e = .returned v ∧ Did B d N' S w A1' w') :
    Calls Try.prog f xs w fun e w' => e = .returned v ∧ Rel X B d m N' A1' A2 w' ∧ Below B w w' ∧ KpX X w w' := by
  obtain ⟨S, lv, h1, h2, h3, h4⟩ := h.ex
  refine (hc S h1 h2 h4).mono ?_
  rintro e w' ⟨rfl, S', k1, k2, k3⟩
  refine ⟨rfl, ⟨⟨S', lv, k1, k2, h3.sta ⟨k3.size, fun k hk hn => k3.block k hk fun ho => hn (.inl ho)⟩ (fun j hj => ?_), fun j hj ho => ?_⟩, fun j hj => ⟨(h.lt j hj).1, Nat.lt_of_lt_of_le (h.lt j hj).2 k3.size⟩⟩, k3.below h1, fun j hj => k3.block j (h.lt j hj).2 (h4 j hj)⟩
  · rcases hj with hj | hj
    · rcases k3.own j hj with h5 | h5
      · exact .inl (.inl h5)
      · exact .inr h5
    · exact .inl (.inr hj)
  · rcases k3.own j ho with h5 | h5
    · exact h4 j hj h5
    · have := (h.lt j hj).2; omega
/-- a call of the document's -/
theorem Rel.doc {X : Nat → Prop} {B d m N : Nat} {A1 A2 A2' : Ad} {w : World} (h : Rel X B d m N A1 A2 w) {f : FuncId} {xs : Array Value} {v : Value}
    (hc : ∀ (F : Nat → Prop) lv, RDK F B m lv A2 w → (∀ j, F j → j < w.heap.size) → (∀ j, F j → B ≤ j) → Calls Try.prog f xs w fun e w' => e = .returned v ∧ ∃ lv', RDK F B m lv' A2' w' ∧ MvR m lv lv' w w') :
    Calls Try.prog f xs w fun e w' => e = .returned v ∧ Rel X B d m N A1 A2' w' ∧ Below B w w' ∧ KpX X w w' := by
  obtain ⟨S, lv, h1, h2, h3, h4⟩ := h.ex
  refine (hc _ lv h3 (fun j hj => ?_) (fun j hj => ?_)).mono ?_
  · rcases hj with hj | hj
    · exact (h1.ownLt hj).2
    · exact (h.lt j hj).2
  · rcases hj with hj | hj
    · exact (h1.ownLt hj).1
    · exact (h.lt j hj).1
  · rintro e w' ⟨rfl, lv', k1, k2⟩
    exact ⟨rfl, ⟨⟨S, lv', h1.sta (fun k hk ho => h3.noF k hk (.inl ho)) k2, h2, k1, h4⟩, fun j hj => ⟨(h.lt j hj).1, Nat.lt_of_lt_of_le (h.lt j hj).2 k2.size⟩⟩, k2.below h3, fun j hj => k2.block j (h.lt j hj).2 fun ho => h3.noF j ho (.inr hj)⟩
/-- .. or a store -/
theorem Rel.docSet {X : Nat → Prop} {B d m N : Nat} {A1 A2 A2' : Ad} {w w' : World} (h : Rel X B d m N A1 A2 w)
    (hc : ∀ (F : Nat → Prop) lv, RDK F B m lv A2 w → RDK F B m lv A2' w' ∧ MvR m lv lv w w') : Rel X B d m N A1 A2' w' ∧ Below B w w' ∧ KpX X w w' := by
  obtain ⟨S, lv, h1, h2, h3, h4⟩ := h.ex
  obtain ⟨k1, k2⟩ := hc _ lv h3
  exact ⟨⟨⟨S, lv, h1.sta (fun k hk ho => h3.noF k hk (.inl ho)) k2, h2, k1, h4⟩, fun j hj => ⟨(h.lt j hj).1, Nat.lt_of_lt_of_le (h.lt j hj).2 k2.size⟩⟩, k2.below h3, fun j hj => k2.block j (h.lt j hj).2 fun ho => h3.noF j ho (.inr hj)⟩
theorem Rel.step {X : Nat → Prop} {B d m N k : Nat} {A1 A2 : Ad} {w : World} (h : Rel X B d m N A1 A2 w) (g : Gd A2) (hb : Bnd k A2) (hk : k ≤ 1000000) (c : DCh) (hc : c.kind ≤ 3) (pa : Option Addr) (pn pc : Nat) (hrd : Rd w pa pn c.p) (hlo : ∀ b o s, pa = some ⟨b, o, s⟩ → pn ≠ 0 → b < B) (hnil : pa = none → pc = 0) (hle : pn ≤ pc) (hpn : pn ≤ 140737488355327) (hs : c.a.size ≤ maxLen) (ht : c.b.size ≤ maxLen) :
    Calls Try.prog 43 #[.pointer (some ⟨m, 0, none⟩), .agg #[.int .i64 (c.kind : Int), .string c.a, .string c.b, .slice pa pn pc]] w fun e w' => e = .returned (.int .i64 (A2.step c).2) ∧ Rel X B d m N A1 (A2.step c).1 w' ∧ Below B w w' ∧ KpX X w w' :=
  h.doc fun F lv hr hF hFB => by
    have h1 := g.now hb
    have h2 : A2.loose.length ≤ k := by unfold Bnd at hb; omega
    exact rstep_any hr hF c hc pa pn pc ⟨hrd, fun b o s e hn hN => by
      have h3 := hlo b o s e hn
      rcases hN with hN | hN
      · have := hFB b hN; omega
      · have := (hr.ownLt hN).1; omega, hnil, hle⟩ hpn hs ht g.srt (by omega) g.used g.r0 g.r1 g.fuse (by omega)
theorem Rel.sync {X : Nat → Prop} {B d m N : Nat} {A1 A2 : Ad} {w : World} (h : Rel X B d m N A1 A2 w) (g : Gd A2) :
    Calls Try.prog 47 #[.pointer (some ⟨m, 0, none⟩)] w fun e w' => e = .returned (.int .i64 A2.sync.2) ∧ Rel X B d m N A1 A2.sync.1 w' ∧ Below B w w' ∧ KpX X w w' :=
  h.doc fun F lv hr hF hFB => rsync_c hr g.fuse
theorem Rel.crash {X : Nat → Prop} {B d m N k : Nat} {A1 A2 : Ad} {w : World} (h : Rel X B d m N A1 A2 w) (g : Gd A2) (hb : Bnd k A2) (hk : k ≤ 1000000) (x y : Int) :
    Calls Try.prog 48 #[.pointer (some ⟨m, 0, none⟩), .int .i64 x, .int .i64 y] w fun e w' => e = .returned (.tuple #[]) ∧ Rel X B d m N A1 (A2.crash x y) w' ∧ Below B w w' ∧ KpX X w w' :=
  h.doc fun F lv hr hF hFB => rcrash_c hr hF x y g.ok g.all (by unfold Bnd at hb; omega)
/-- both disks as one -/
structure Two (X : Nat → Prop) (B d m k : Nat) (A : Ad) (w : World) : Prop where
  rel : Rel X B d m (3 * k) A A w
  bnd : Bnd k A
theorem Two.gd {X : Nat → Prop} {B d m k : Nat} {A : Ad} {w : World} (h : Two X B d m k A w) : Gd A := h.rel.gd
theorem Two.below {X : Nat → Prop} {B d m k : Nat} {A : Ad} {w w' : World} (h : Two X B d m k A w) (hb : Below w.heap.size w w') : Two X B d m k A w' := ⟨h.rel.below hb, h.bnd⟩
theorem Two.mono {X : Nat → Prop} {B d m k j : Nat} {A : Ad} {w : World} (h : Two X B d m k A w) (hk : k ≤ j) : Two X B d m j A w := ⟨h.rel.mono (by omega), by have := h.bnd; unfold Bnd at this ⊢; omega⟩
end Go.Proofs.Ytcjlbonflecbkaa
