/-
  A journal's load, plain; a script's records and the disk.
-/
import Derived.Test.YtmomdfmilelilaaJoh
namespace Go.Proofs.Ytmomdfmilelilaa
set_option linter.unusedVariables false
theorem scan_cut (p : List Nat) (hp : p.length ≤ 1048576) (t : Nat) (ht : t < (Frm.frameL p).length) : Frm.scanL ((Frm.frameL p).take t) = ([], 0) := by
  refine Frm.scan_none ?_
  cases hf : Frm.firstL ((Frm.frameL p).take t) with
  | none => rfl
  | some r =>
    exfalso
    obtain ⟨h1, h2, _, _, _⟩ := Frm.first_some hf
    rw [List.length_take] at h1
    have hl := Frm.frame_len p
    have h4 : 4 ≤ t := by omega
    have hw : Frm.wordL ((Frm.frameL p).take t) = p.length := by
      have e : (Frm.frameL p).take t = Numm.put p.length 4 ++ ((Numm.put (Frm.crcL (Numm.put p.length 4 ++ p)) 4 ++ p).take (t - 4)) := by
        unfold Frm.frameL
        rw [List.take_append, List.take_of_length_le (by rw [Numm.put_len]; omega), Numm.put_len]
      rw [e]
      exact Frm.word_frame p _ (by omega)
    omega
theorem scan_all {qs : List (List Nat)} (h : ∀ p ∈ qs, p.length ≤ 1048576) {q : List Nat} (hq : Frm.scanL q = ([], 0)) : (Frm.scanL (Frm.flatF qs ++ q)).1 = qs := by
  rw [Frm.scan_pre q qs h, hq, List.append_nil]
theorem scan_nil : Frm.scanL [] = ([], 0) := Frm.scan_none (Frm.first_short (by decide))
section
variable {P : List Nat → Prop} {U : Nat} {nm : ByteArray}
/-- what a load leaves -/
theorem load_inv {A : Ad} (h : JI P U nm (spJ nm) A) (hP : ∀ y, P y → y.length ≤ U) (hS : ∀ y, P y → P (Frm.flatF (Frm.scanL y).1)) (hne : nm ≠ spJ nm) (hn : isNm nm = true) (hs : isNm (spJ nm) = true) (hroom : 2 * (U : Int) ≤ A.room) (hU : U ≤ 1048576) :
    JI P U nm (spJ nm) (A.load nm).1 ∧ Done A (A.load nm) ∧ ((A.load nm).2 = 0 → lookF (A.load nm).1.now nm = some (Frm.flatF (recsA A nm)) ∧ (A.loose = [] → A.sure = A.now → (A.load nm).1.loose = [] ∧ (A.load nm).1.sure = (A.load nm).1.now)) := by
  unfold Ad.load recsA
  by_cases hd : A.down = true
  · rw [if_pos hd, if_pos hd]
    exact ⟨h, Done.dead hd, fun e => absurd e n50⟩
  · rw [if_neg hd, if_neg hd]
    obtain ⟨z, hz⟩ := h.gnow.has
    rw [hz]
    simp only
    have hPz : P z := by
      rcases h.gnow.all nm z hz with e | e
      · exact e.2
      · exact absurd e.1 hne
    by_cases hc : (Frm.scanL z).2 < z.length
    · rw [if_pos hc]
      have hw := rw_inv h hP (hS z hPz) hne hn hs hroom hU
      exact ⟨hw.inv, hw.done, fun e => ⟨(hw.fin e).2.2, fun _ _ => ⟨(hw.fin e).1, (hw.fin e).2.1⟩⟩⟩
    · rw [if_neg hc]
      have hle := Frm.scan_le z.length z (Nat.le_refl _)
      refine ⟨h, Done.ok hd rfl id rfl, fun _ => ⟨?_, fun a b => ⟨a, b⟩⟩⟩
      rw [hz, scan_flat z.length z (Nat.le_refl _), List.take_of_length_le (by omega)]
end
def nmj : ByteArray := ⟨#[106]⟩
theorem nmj_ne : nmj ≠ spJ nmj := by decide
theorem nmj_nm : isNm nmj = true := by decide
theorem nmj_sp : isNm (spJ nmj) = true := by decide
/-- what the journal's file may be behind a loss of power -/
def PJ (all other : List (List Nat)) (sure : Nat) (cut : Bool) (U : Nat) (z : List Nat) : Prop :=
  ((∃ m q, sure ≤ m ∧ m ≤ all.length ∧ z = Frm.flatF (all.take m) ++ q ∧ Frm.scanL q = ([], 0)) ∨ (cut = true ∧ z = Frm.flatF other)) ∧ z.length ≤ U
/-- a script, where the power may have gone -/
structure JC (all other : List (List Nat)) (sure : Nat) (cut : Bool) (U : Nat) (A : Ad) : Prop where
  inv : JI (PJ all other sure cut U) U nmj (spJ nmj) A
  le : sure ≤ all.length
  la : ∀ p ∈ all, p.length ≤ 2000
  lo : ∀ p ∈ other, p.length ≤ 2000
  room : A.room = 1048576
  uok : U ≤ 400000
/-- and the power on, or off -/
structure JT (all other : List (List Nat)) (sure : Nat) (cut : Bool) (U : Nat) (A : Ad) : Prop where
  c : JC all other sure cut U A
  reg : A.down = false → lookF A.now nmj = some (Frm.flatF all) ∧ cut = false
  lu : (Frm.flatF all).length ≤ U
theorem pj_len {all other : List (List Nat)} {sure : Nat} {cut : Bool} {U : Nat} : ∀ y, PJ all other sure cut U y → y.length ≤ U := fun y h => h.2
theorem pj_rec {all other : List (List Nat)} {sure : Nat} {cut : Bool} {U : Nat} (la : ∀ p ∈ all, p.length ≤ 2000) (lo : ∀ p ∈ other, p.length ≤ 2000) {y : List Nat} (h : PJ all other sure cut U y) : (∃ m, sure ≤ m ∧ m ≤ all.length ∧ (Frm.scanL y).1 = all.take m) ∨ (cut = true ∧ (Frm.scanL y).1 = other) := by
  rcases h.1 with ⟨m, q, h1, h2, rfl, h3⟩ | ⟨h1, rfl⟩
  · exact .inl ⟨m, h1, h2, scan_all (fun p hp => by have := la p (List.mem_of_mem_take hp); omega) h3⟩
  · refine .inr ⟨h1, ?_⟩
    have := scan_all (qs := other) (fun p hp => by have := lo p hp; omega) scan_nil
    rwa [List.append_nil] at this
theorem pj_scan {all other : List (List Nat)} {sure : Nat} {cut : Bool} {U : Nat} (la : ∀ p ∈ all, p.length ≤ 2000) (lo : ∀ p ∈ other, p.length ≤ 2000) : ∀ y, PJ all other sure cut U y → PJ all other sure cut U (Frm.flatF (Frm.scanL y).1) := fun y h => by
  refine ⟨?_, ?_⟩
  · rcases pj_rec la lo h with ⟨m, h1, h2, h3⟩ | ⟨h1, h3⟩
    · rw [h3]; exact .inl ⟨m, [], h1, h2, by rw [List.append_nil], scan_nil⟩
    · rw [h3]; exact .inr ⟨h1, rfl⟩
  · rw [scan_flat y.length y (Nat.le_refl _), List.length_take]
    have := h.2
    omega
theorem pj_mono {all other : List (List Nat)} {sure : Nat} {cut : Bool} {U V : Nat} (h : U ≤ V) : ∀ y, PJ all other sure cut U y → PJ all other sure cut V y := fun y k => ⟨k.1, Nat.le_trans k.2 h⟩
theorem JC.mono {all other : List (List Nat)} {sure : Nat} {cut : Bool} {U V : Nat} {A : Ad} (h : JC all other sure cut U A) (hU : U ≤ V) (hV : V ≤ 400000) : JC all other sure cut V A := ⟨h.inv.mono (pj_mono hU) hU, h.le, h.la, h.lo, h.room, hV⟩
theorem JT.mono {all other : List (List Nat)} {sure : Nat} {cut : Bool} {U V : Nat} {A : Ad} (h : JT all other sure cut U A) (hU : U ≤ V) (hV : V ≤ 400000) : JT all other sure cut V A := ⟨h.c.mono hU hV, h.reg, Nat.le_trans h.lu hU⟩
theorem fused_down (A : Ad) (n : Int) : (A.fused n).1.down = A.down ∧ (A.fused n).1.now = A.now ∧ (A.fused n).1.room = A.room := by
  unfold Ad.fused
  by_cases hd : A.down = true
  · rw [if_pos hd]; exact ⟨rfl, rfl, rfl⟩
  · rw [if_neg hd]; exact ⟨rfl, rfl, rfl⟩
theorem JC.fused {all other : List (List Nat)} {sure : Nat} {cut : Bool} {U : Nat} {A : Ad} (h : JC all other sure cut U A) (n : Int) : JC all other sure cut U (A.fused n).1 := ⟨h.inv.fused n, h.le, h.la, h.lo, (fused_down A n).2.2.trans h.room, h.uok⟩
theorem JT.fused {all other : List (List Nat)} {sure : Nat} {cut : Bool} {U : Nat} {A : Ad} (h : JT all other sure cut U A) (n : Int) : JT all other sure cut U (A.fused n).1 := ⟨h.c.fused n, fun hd => by
  rw [(fused_down A n).1] at hd
  rw [(fused_down A n).2.1]
  exact h.reg hd, h.lu⟩
theorem JC.crash {all other : List (List Nat)} {sure : Nat} {cut : Bool} {U : Nat} {A : Ad} (h : JC all other sure cut U A) (k p : Int) : JC all other sure cut U (A.crash k p) := ⟨h.inv.crash nmj_ne k p, h.le, h.la, h.lo, h.room, h.uok⟩
theorem JC.small {all other : List (List Nat)} {sure : Nat} {cut : Bool} {U : Nat} {A : Ad} (h : JC all other sure cut U A) : ∀ z, lookF A.now nmj = some z → z.length < 1048576 := fun z hz => by
  have := h.uok
  rcases h.inv.gnow.all nmj z hz with e | e
  · have := e.2.2; omega
  · have := e.2; omega
theorem JC.ld {all other : List (List Nat)} {sure : Nat} {cut : Bool} {U : Nat} {A : Ad} (h : JC all other sure cut U A) : JC all other sure cut U (A.load nmj).1 ∧ Done A (A.load nmj) ∧ ((A.load nmj).2 = 0 → lookF (A.load nmj).1.now nmj = some (Frm.flatF (recsA A nmj)) ∧ (A.loose = [] → A.sure = A.now → (A.load nmj).1.loose = [] ∧ (A.load nmj).1.sure = (A.load nmj).1.now)) := by
  have hu := h.uok
  obtain ⟨h1, h2, h3⟩ := load_inv h.inv pj_len (pj_scan h.la h.lo) nmj_ne nmj_nm nmj_sp (by rw [h.room]; omega) (by omega)
  exact ⟨⟨h1, h.le, h.la, h.lo, h2.room.trans h.room, h.uok⟩, h2, h3⟩
/-- behind a crash what is opened is what it may be -/
theorem JC.opened {all other : List (List Nat)} {sure : Nat} {cut : Bool} {U : Nat} {A : Ad} (h : JC all other sure cut U A) (k p : Int) :
    ((A.crash k p).load nmj).2 = 0 ∧ JT (recsA (A.crash k p) nmj) other (recsA (A.crash k p) nmj).length false U ((A.crash k p).load nmj).1 ∧
    ((∃ m, sure ≤ m ∧ m ≤ all.length ∧ recsA (A.crash k p) nmj = all.take m) ∨ (cut = true ∧ recsA (A.crash k p) nmj = other)) := by
  have hc := h.crash k p
  obtain ⟨h1, h2, h3⟩ := hc.ld
  have h0 := (h2.on rfl (show (-1 : Int) < 0 by decide))
  obtain ⟨z, hz⟩ := hc.inv.gnow.has
  have hPz : PJ all other sure cut U z := by
    rcases hc.inv.gnow.all nmj z hz with e | e
    · exact e.2
    · exact absurd e.1 nmj_ne
  have hrec : recsA (A.crash k p) nmj = (Frm.scanL z).1 := by
    unfold recsA
    rw [if_neg (show ¬ (A.crash k p).down = true from fun e => by cases e), hz]
  have hpr := pj_rec h.la h.lo hPz
  rw [← hrec] at hpr
  obtain ⟨h4, h5⟩ := h3 h0.1
  obtain ⟨h6, h7⟩ := h5 rfl rfl
  have hlu : (Frm.flatF (recsA (A.crash k p) nmj)).length ≤ U := by
    have := (pj_scan h.la h.lo z hPz).2
    rwa [← hrec] at this
  have hla : ∀ p' ∈ recsA (A.crash k p) nmj, p'.length ≤ 2000 := by
    intro p' hp'
    rcases hpr with ⟨m, _, _, e⟩ | ⟨_, e⟩
    · rw [e] at hp'; exact h.la p' (List.mem_of_mem_take hp')
    · rw [e] at hp'; exact h.lo p' hp'
  refine ⟨h0.1, ⟨⟨JI.calm (h1.inv.gnow.re h4 ⟨.inl ⟨_, [], Nat.le_refl _, Nat.le_refl _, by rw [List.take_length, List.append_nil], scan_nil⟩, hlu⟩) rfl h7 h6, Nat.le_refl _, hla, h.lo, h1.room, h.uok⟩, fun _ => ⟨h4, rfl⟩, hlu⟩, hpr⟩
/-- one record more -/
theorem JT.append {all other : List (List Nat)} {sure : Nat} {cut : Bool} {U : Nat} {A : Ad} (h : JT all other sure cut U A) (p : List Nat) (hp : p.length ≤ 2000) (hV : U + 2200 ≤ 400000) :
    ((A.step ⟨1, nmj, ⟨#[]⟩, Frm.frameL p⟩).2 = 0 ∧ JT (all ++ [p]) other sure cut (U + 2200) (A.step ⟨1, nmj, ⟨#[]⟩, Frm.frameL p⟩).1) ∨ ((A.step ⟨1, nmj, ⟨#[]⟩, Frm.frameL p⟩).2 = 5 ∧ JT all other sure cut (U + 2200) (A.step ⟨1, nmj, ⟨#[]⟩, Frm.frameL p⟩).1) := by
  have hfl := Frm.frame_len p
  have hm := h.mono (Nat.le_add_right U 2200) hV
  by_cases hd : A.down = true
  · have e : A.step ⟨1, nmj, ⟨#[]⟩, Frm.frameL p⟩ = (A, 5) := by unfold Ad.step; rw [if_pos hd]
    rw [e]
    exact .inr ⟨rfl, hm⟩
  · have hd' : A.down = false := by cases hx : A.down; rfl; exact absurd hx hd
    obtain ⟨r1, r2⟩ := h.reg hd'
    have hmay : A.may ⟨1, nmj, ⟨#[]⟩, Frm.frameL p⟩ = 0 := by
      have h2 := h.c.inv.gnow.two.1
      rw [r1] at h2
      have hsl : ((lookF A.now (spJ nmj)).getD []).length ≤ U := by
        cases hz : lookF A.now (spJ nmj) with
        | none => exact Nat.zero_le _
        | some z =>
          rcases h.c.inv.gnow.all _ z hz with e | e
          · exact absurd e.1.symm nmj_ne
          · exact e.2
      have hlu := h.lu
      have hroom := h.c.room
      simp only [Option.getD_some] at h2
      unfold Ad.may
      simp only [r1, Option.isNone_some, Bool.false_eq_true, if_false, if_true]
      rw [if_neg (by decide), if_neg (by omega), if_neg (by omega)]
    have dn := done_step hmay
    have hallp : (all ++ [p]).take all.length = all := by rw [List.take_append_of_le_length (Nat.le_refl _), List.take_length]
    have hpj : ∀ y, PJ all other sure cut U y → PJ (all ++ [p]) other sure cut (U + 2200) y := fun y hy => ⟨by
      rcases hy.1 with ⟨m, q, a, b, c, e⟩ | e
      · exact .inl ⟨m, q, a, by simp; omega, by rw [List.take_append_of_le_length b]; exact c, e⟩
      · exact .inr e, by have := hy.2; omega⟩
    have hpart : ∀ t, PJ (all ++ [p]) other sure cut (U + 2200) (Frm.flatF all ++ (Frm.frameL p).take t) := fun t => by
      refine ⟨.inl ?_, by rw [List.length_append, List.length_take]; have := h.lu; omega⟩
      by_cases ht : t < (Frm.frameL p).length
      · exact ⟨all.length, _, h.c.le, by simp, by rw [hallp], scan_cut p (by omega) t ht⟩
      · refine ⟨all.length + 1, [], by have := h.c.le; omega, by simp, ?_, scan_nil⟩
        rw [List.take_of_length_le (l := Frm.frameL p) (by omega), List.append_nil, List.take_of_length_le (by simp), Frm.flat_app, Frm.flat_one]
    have hi : JI (PJ (all ++ [p]) other sure cut (U + 2200)) (U + 2200) nmj (spJ nmj) (A.step ⟨1, nmj, ⟨#[]⟩, Frm.frameL p⟩).1 := by
      have hb := h.c.inv.mono hpj (Nat.le_add_right U 2200)
      refine hb.step _ (fun _ => hb.gnow.apn _ _ ?_) (fun _ _ => .inr ⟨rfl, fun z t hz => ?_⟩)
      · rw [r1]
        have := hpart (Frm.frameL p).length
        rwa [List.take_length] at this
      · rw [r1] at hz
        rw [← Option.some.inj hz]
        exact hpart t
    rcases dn.code with e | e
    · refine .inl ⟨e, ⟨hi, by have := h.c.le; simp; omega, fun x hx => ?_, h.c.lo, dn.room.trans h.c.room, hV⟩, fun _ => ⟨?_, r2⟩, ?_⟩
      · rcases List.mem_append.1 hx with hx | hx
        · exact h.c.la x hx
        · rw [List.mem_singleton.1 hx]; exact hp
      · rw [(step_zeroJ e).2]
        show lookF (doF A.now ⟨1, nmj, ⟨#[]⟩, Frm.frameL p⟩) nmj = _
        rw [look_appJ, if_pos rfl, r1, Frm.flat_app, Frm.flat_one]
        rfl
      · rw [Frm.flat_app, Frm.flat_one, List.length_append]
        have := h.lu
        omega
    · refine .inr ⟨e, ?_⟩
      have hoff := dn.off e
      rcases step_errJ (A := A) (c := ⟨1, nmj, ⟨#[]⟩, Frm.frameL p⟩) (by rw [e]; exact n50) with ⟨e2, _⟩ | ⟨e2, _⟩
      · rw [e2] at hoff; exact absurd hoff hd
      · rw [e2]
        exact ⟨⟨hm.c.inv.same rfl rfl rfl, hm.c.le, hm.c.la, hm.c.lo, hm.c.room, hV⟩, (fun e => by cases e), hm.lu⟩
/-- what is there lasts -/
theorem JT.sync {all other : List (List Nat)} {sure : Nat} {cut : Bool} {U : Nat} {A : Ad} (h : JT all other sure cut U A) :
    (A.sync.2 = 0 ∧ JT all other all.length cut U A.sync.1) ∨ (A.sync.2 = 5 ∧ JT all other sure cut U A.sync.1) := by
  by_cases h0 : A.sync.2 = 0
  · left
    obtain ⟨k1, k2, k3, k4, k5⟩ := sync_zeroJ h0
    have hd : A.down = false := by
      cases hx : A.down with
      | false => rfl
      | true =>
        have := ((done_sync A).was hx).2
        rw [h0] at this
        exact absurd this n05
    obtain ⟨r1, r2⟩ := h.reg hd
    refine ⟨h0, ⟨JI.calm (h.c.inv.gnow.re r1 ⟨.inl ⟨_, [], Nat.le_refl _, Nat.le_refl _, by rw [List.take_length, List.append_nil], scan_nil⟩, h.lu⟩) k1 k3 k2, Nat.le_refl _, h.c.la, h.c.lo, k5.trans h.c.room, h.c.uok⟩, fun _ => ⟨by rw [k1]; exact r1, r2⟩, h.lu⟩
  · right
    obtain ⟨e1, e2, e3⟩ := sync_errJ h0
    refine ⟨e1, ⟨h.c.inv.sync, h.c.le, h.c.la, h.c.lo, (sync_room A).trans h.c.room, h.c.uok⟩, (fun e => by rw [e3] at e; cases e), h.lu⟩
/-- other records in the place of all -/
theorem JT.rewrite {all other : List (List Nat)} {sure : Nat} {cut : Bool} {U : Nat} {A : Ad} (h : JT all other sure cut U A) (rs : List (List Nat)) (hr : ∀ p ∈ rs, p.length ≤ 2000) (hl : (Frm.flatF rs).length ≤ 5000) (hV : U + 5000 ≤ 400000) :
    ((A.rw nmj (spJ nmj) (Frm.flatF rs)).2 = 0 ∧ JT rs other rs.length cut (U + 5000) (A.rw nmj (spJ nmj) (Frm.flatF rs)).1) ∨ ((A.rw nmj (spJ nmj) (Frm.flatF rs)).2 = 5 ∧ ((A.down = true ∧ JT all other sure cut (U + 5000) (A.rw nmj (spJ nmj) (Frm.flatF rs)).1) ∨ (A.down = false ∧ JT all rs sure true (U + 5000) (A.rw nmj (spJ nmj) (Frm.flatF rs)).1))) := by
  have hm := h.mono (Nat.le_add_right U 5000) hV
  by_cases hd : A.down = true
  · have hw := rw_inv (z := Frm.flatF all) hm.c.inv pj_len ⟨.inl ⟨all.length, [], h.c.le, Nat.le_refl _, by rw [List.take_length, List.append_nil], scan_nil⟩, hm.lu⟩ nmj_ne nmj_nm nmj_sp (by rw [h.c.room]; omega) (by omega)
    have e : ∀ z, A.rw nmj (spJ nmj) z = (A, 5) := fun z => by
      have e1 : runA (rwS nmj (spJ nmj) z) A = rmA (spJ nmj) A := by
        show (if (rmA (spJ nmj) A).2 ≠ 0 then rmA (spJ nmj) A else _) = _
        rw [if_pos (by rw [((done_rm A _).was hd).2]; exact n50)]
      obtain ⟨e2, e3⟩ := (done_rm A (spJ nmj)).was hd
      unfold Ad.rw rwE
      rw [e1, e3, if_neg (by decide)]
      exact Prod.ext e2 e3
    rw [e]
    exact .inr ⟨rfl, .inl ⟨hd, hm⟩⟩
  · have hd' : A.down = false := by cases hx : A.down; rfl; exact absurd hx hd
    obtain ⟨r1, r2⟩ := h.reg hd'
    have hpj : ∀ y, PJ all other sure cut U y → PJ all rs sure true (U + 5000) y := fun y hy => ⟨by
      rcases hy.1 with e | e
      · exact .inl e
      · rw [r2] at e; exact absurd e.1 (by decide), by have := hy.2; omega⟩
    have hw := rw_inv (z := Frm.flatF rs) (h.c.inv.mono hpj (Nat.le_add_right U 5000)) pj_len ⟨.inr ⟨rfl, rfl⟩, by omega⟩ nmj_ne nmj_nm nmj_sp (by rw [h.c.room]; omega) (by omega)
    rcases hw.done.code with e | e
    · left
      obtain ⟨f1, f2, f3⟩ := hw.fin e
      refine ⟨e, ⟨JI.calm (hw.inv.gnow.re f3 ⟨.inl ⟨_, [], Nat.le_refl _, Nat.le_refl _, by rw [List.take_length, List.append_nil], scan_nil⟩, by omega⟩) rfl f2 f1, Nat.le_refl _, hr, h.c.lo, hw.done.room.trans h.c.room, hV⟩, fun _ => ⟨f3, r2⟩, by omega⟩
    · right
      refine ⟨e, .inr ⟨hd', ⟨hw.inv, h.c.le, h.c.la, hr, hw.done.room.trans h.c.room, hV⟩, (fun e2 => by rw [hw.done.off e] at e2; cases e2), by have := h.lu; omega⟩⟩
/-- the first opening -/
theorem JT.init : (Ad.load ⟨1048576, -1, false, [], [], []⟩ nmj).2 = 0 ∧ recsA ⟨1048576, -1, false, [], [], []⟩ nmj = [] ∧ JT [] [] 0 false 5000 (Ad.load ⟨1048576, -1, false, [], [], []⟩ nmj).1 := by
  have e : Ad.load ⟨1048576, -1, false, [], [], []⟩ nmj = (⟨1048576, -1, false, [(nmj, [])], [(nmj, [])], []⟩, 0) := by rfl
  rw [e]
  refine ⟨rfl, rfl, ⟨JI.calm (l := [(nmj, [])]) ⟨List.pairwise_singleton _ _, ⟨[], rfl⟩, fun n z hz => ?_⟩ rfl rfl rfl, Nat.le_refl _, (fun p hp => by cases hp), (fun p hp => by cases hp), rfl, by omega⟩, fun _ => ⟨rfl, rfl⟩, Nat.zero_le _⟩
  have h1 : (if nmj = n then some [] else none) = some z := hz
  by_cases hn : nmj = n
  · rw [if_pos hn] at h1
    rw [← Option.some.inj h1]
    exact .inl ⟨hn.symm, .inl ⟨0, [], Nat.le_refl _, Nat.le_refl _, rfl, scan_nil⟩, Nat.zero_le _⟩
  · rw [if_neg hn] at h1; cases h1
end Go.Proofs.Ytmomdfmilelilaa
