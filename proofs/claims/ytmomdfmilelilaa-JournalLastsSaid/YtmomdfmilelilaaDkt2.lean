/-
  A disk in memory is the document's: undo of a loose change.
-/
import Derived.Test.YtmomdfmilelilaaDks
namespace Go.Proofs.Ytmomdfmilelilaa
open Go.RowKit Go.Maps
set_option linter.unusedVariables false
/-- bounds of names and bytes -/
structure Bds (S : Dsk) : Prop where
  nms : ∀ b f, S.fl b = some f → f.nm.size ≤ 160
  cnm : ∀ c ∈ S.loose, c.name.size ≤ 160
  zsl : ∀ b f, S.fl b = some f → f.zs.length ≤ 67108864
theorem Bds.file {S S' : Dsk} {b : Nat} {f : Fil} (h : Bds S) (h1 : S'.fl = (S.file b f).fl) (h2 : S'.loose = S.loose) (k1 : f.nm.size ≤ 160) (k2 : f.zs.length ≤ 67108864) : Bds S' := by
  refine ⟨fun c g hc => ?_, by rw [h2]; exact h.cnm, fun c g hc => ?_⟩
  · rw [h1] at hc
    have hc' : (if c = b then some f else S.fl c) = some g := hc
    split at hc'
    · cases hc'; exact k1
    · exact h.nms c g hc'
  · rw [h1] at hc
    have hc' : (if c = b then some f else S.fl c) = some g := hc
    split at hc'
    · cases hc'; exact k2
    · exact h.zsl c g hc'
theorem Bds.same {S S' : Dsk} (h : Bds S) (h1 : S'.fl = S.fl) (h2 : S'.loose = S.loose) : Bds S' := ⟨by rw [h1]; exact h.nms, by rw [h2]; exact h.cnm, by rw [h1]; exact h.zsl⟩
/-- what undo leaves -/
def Und (B d : Nat) (S : Dsk) (c : Chg) (st : Nat) (W W' : World) : Prop := ∃ S' l', DK B d S' W' ∧ Mov S d S' W W' ∧ S'.lv = S.lv ∧ S'.loose = S.loose ∧ S'.room = S.room ∧ S'.vw = S.vw.undo c st ∧ JS S' l' ∧ S'.n ≤ S.n + 2 ∧ Td S' ∧ Bds S'
theorem undo_c {B d R : Nat} {S : Dsk} {W : World} (h : DK B d S W) {cs : List Chg} {l : Fls} {os : List DCh} {sure : Fls} {c : Chg} {o : DCh} (hch : Chn R S.vw (c :: cs) l (o :: os) sure) (hj : JS S l) (hm : c ∈ S.loose) (hR : R ≤ 67108864) (hb : Bds S) (td : Td S) (hn : S.n + 1 < maxLen) (st : Nat) (hst : st ≤ 1048576) (rp : Option Addr) (hrp : rp = c.repl.map fun b => ⟨b, 0, none⟩) :
    Calls Try.prog 46 #[.pointer (some ⟨d, 0, none⟩), .agg #[.int .i64 c.kind, .pointer (some ⟨c.file, 0, none⟩), .int .i64 c.size, .string c.name, .pointer rp], .int .i64 (st : Int)] W fun e W' => e = .returned (.tuple #[]) ∧ Und B d S c st W W' := by
  obtain ⟨hab, hu, hd, hf⟩ : Ab S.vw l ∧ usedF l ≤ R ∧ (∃ l', l = doF l' o ∧ Chn R (S.vw.undo c 0) cs l' os sure) ∧ Fit S.vw c o := by
    cases hch with
    | cons h1 h2 h3 h4 h5 => exact ⟨h1, h2, ⟨_, h3, h5⟩, h4⟩
  obtain ⟨⟨f, hfl⟩, hrl⟩ := h.rest.hc c hm
  have hnm : S.vw.nm c.file = f.nm := Dsk.nm_of hfl
  have hzs : S.vw.zs c.file = f.zs := Dsk.zs_of hfl
  have hl160 : (160 : Nat) ≤ maxLen := by unfold maxLen; omega
  have hns : f.nm.size ≤ maxLen := Nat.le_trans (hb.nms _ f hfl) hl160
  have hzl := hb.zsl _ f hfl
  have hk := hf.kind
  have hk3 := hf.k3
  by_cases e0 : o.kind = 0
  · have ck : c.kind = 0 := by rw [hk, e0]; rfl
    have ha := hf.k0 e0
    have hnm2 : f.nm = o.a := hnm.symm.trans (hab.nm _ _ ha)
    rw [ck]
    refine (dundo_created h hfl c.size (st : Int) c.name rp hns).mono ?_
    rintro e w' ⟨rfl, k1, k2⟩
    refine ⟨rfl, _, _, k1, k2, rfl, rfl, rfl, ?_, hj.drop td hfl (by rw [hnm2]; exact ha) (by omega), by show S.n ≤ _; omega, td.drop f, hb.same rfl rfl⟩
    rw [Dsk.vw_drop]
    unfold Vw.undo
    rw [if_pos ck, hnm]
  by_cases e1 : o.kind = 1
  · have ck : c.kind = 1 := by rw [hk, e1]; rfl
    obtain ⟨ha, h1, h2, h3, h4, h5⟩ := hf.k1 e1
    rw [hzs] at h3 h4
    rw [ck]
    obtain ⟨k, hkk⟩ : ∃ k : Nat, k = min f.zs.length (c.size.toNat + st) := ⟨_, rfl⟩
    refine (dundo_app h hfl c.size (st : Int) c.name rp k h1 (by omega) (by omega) (by omega) (by omega) (by omega)).mono ?_
    rintro e w' ⟨rfl, v, hv, k1, k2⟩
    have htk : (f.zs.take k).length = k := by rw [List.length_take]; omega
    have hused : usedF l ≤ 67108864 := by omega
    have hlen : f.zs.length ≤ usedF l := by
      have h9 := used_without (n := o.a) hab.srt
      rw [hab.has ha, hzs] at h9
      simp only [Option.getD_some] at h9
      omega
    obtain ⟨j2, hv2⟩ := hj.bytes (S' := S.cutf c.file f v k) (v := v) (zs := f.zs.take k) hfl ha rfl rfl (by
      show wrap64 (S.used - ((f.zs.length - k : Nat) : Int)) = S.used - (f.zs.length : Int) + ((f.zs.take k).length : Int)
      rw [htk, hj.used, wrap64_id (by omega) (by omega)]
      omega)
    refine ⟨rfl, _, _, k1, k2, rfl, rfl, rfl, ?_, j2, by show S.n ≤ _; omega, td.same rfl, hb.file (b := c.file) (f := ⟨f.nm, v, f.zs.take k⟩) rfl rfl (hb.nms _ f hfl) (by show (f.zs.take k).length ≤ _; omega)⟩
    rw [hv2]
    unfold Vw.undo
    rw [if_neg (by omega), if_pos ck, hzs, hkk]
    congr 1
    by_cases hle : f.zs.length ≤ c.size.toNat + st
    · rw [Nat.min_eq_left hle, List.take_length, List.take_of_length_le hle]
    · rw [Nat.min_eq_right (by omega)]
  by_cases e2 : o.kind = 2
  · have ck : c.kind = 2 := by rw [hk, e2]; rfl
    obtain ⟨h1, h2⟩ := hf.k2 e2
    have hnm2 : f.nm = o.a := hnm.symm.trans h1
    rw [ck]
    refine (dundo_removed h hfl c.size (st : Int) c.name rp hns (by omega)).mono ?_
    rintro e w' ⟨rfl, m, k1, k2⟩
    refine ⟨rfl, _, _, k1, k2, rfl, rfl, rfl, ?_, hj.put td hfl (by rw [hnm2]; exact h2) m (fun x hx => ?_) (by omega), by show S.n + 1 ≤ _; omega, td.put m _ f, hb.same rfl rfl⟩
    · rw [Dsk.vw_put td.tidy.isMap]
      unfold Vw.undo
      rw [if_neg (by omega), if_neg (by omega), if_pos ck, hnm]
    · have := hab.nm x c.file hx
      rw [h1] at this
      rw [← this] at hx
      have h2' : S.at o.a = none := h2
      rw [h2'] at hx
      cases hx
  have e3 : o.kind = 3 := by omega
  have ck : c.kind = 3 := by rw [hk, e3]; rfl
  obtain ⟨h1, h2, h3, h4⟩ := hf.k3a e3
  have hnm2 : f.nm = o.b := hnm.symm.trans (hab.nm _ _ h1)
  have hat : S.at f.nm = some c.file := by rw [hnm2]; exact h1
  have hcn := hb.cnm c hm
  have hcm : c.name.size ≤ maxLen := Nat.le_trans hcn hl160
  have hno : ∀ x, S.at x = some c.file → x = f.nm := fun x hx => (hab.nm x c.file hx).symm.trans hnm
  have j2 := hj.drop td hfl hat (by omega)
  have td2 := td.drop f
  have hdu : usedF (withoutF l f.nm) ≤ 67108864 := by have := used_without (n := f.nm) hab.srt; omega
  have hno2 : ∀ x, (S.drop f).at x ≠ some c.file := fun x hx => by
    rw [at_drop] at hx
    split at hx
    · cases hx
    · rename_i e
      exact e (hno x hx)
  have j3 := j2.file hno2 ⟨c.name, f.row, f.zs⟩
  have td3 : Td ((S.drop f).file c.file ⟨c.name, f.row, f.zs⟩) := td2.same rfl
  have hfl3 : ((S.drop f).file c.file ⟨c.name, f.row, f.zs⟩).fl c.file = some ⟨c.name, f.row, f.zs⟩ := by show (if _ then _ else _) = _; rw [if_pos rfl]
  have hnone : ((S.drop f).file c.file ⟨c.name, f.row, f.zs⟩).at c.name = none := by
    show (S.drop f).at c.name = none
    rw [at_drop]
    split
    · rfl
    · rename_i e
      rw [h2] at e ⊢
      exact h3 (fun k => e (by rw [hnm2]; exact k))
  have j4 := fun m => j3.put td3 hfl3 hnone m (by exact hno2) (by show usedF (withoutF l f.nm) + f.zs.length ≤ _; omega)
  have td4 := fun m => td3.put m c.file ⟨c.name, f.row, f.zs⟩
  have b4 : ∀ m, Bds (((S.drop f).file c.file ⟨c.name, f.row, f.zs⟩).put m c.file ⟨c.name, f.row, f.zs⟩) := fun m => hb.file (b := c.file) (f := ⟨c.name, f.row, f.zs⟩) rfl rfl hcn hzl
  have v4 : ∀ m, (((S.drop f).file c.file ⟨c.name, f.row, f.zs⟩).put m c.file ⟨c.name, f.row, f.zs⟩).vw = ((S.vw.set f.nm none).name c.file c.name).set c.name (some c.file) := fun m => by
    rw [Dsk.vw_put td3.tidy.isMap, Dsk.vw_file, Dsk.vw_drop]
    refine Vw.ext3 rfl ?_ rfl
    funext x
    show (if x = c.file then f.zs else S.vw.zs x) = S.vw.zs x
    by_cases e : x = c.file
    · rw [if_pos e, e, hzs]
    · rw [if_neg e]
  rw [ck]
  rcases h4 with h4 | ⟨r, h4, h5, h6, h7⟩
  · rw [h4] at hrp
    subst hrp
    refine (dundo_renamed h hfl c.size (st : Int) c.name hns hcm hn hno).mono ?_
    rintro e w' ⟨rfl, m, k1, k2⟩
    refine ⟨rfl, _, _, k1, k2, rfl, rfl, rfl, ?_, j4 m, by show S.n + 1 ≤ _; omega, td4 m, b4 m⟩
    rw [v4]
    unfold Vw.undo
    rw [if_neg (by omega), if_neg (by omega), if_neg (by omega), hnm, h4]
  · obtain ⟨g, hg⟩ := hrl r h4
    rw [h4] at hrp
    subst hrp
    have hgn : g.nm = f.nm := by
      have e : S.vw.nm r = g.nm := Dsk.nm_of hg
      rw [← e, h6, hnm2]
    have hg3 : ∀ m, (((S.drop f).file c.file ⟨c.name, f.row, f.zs⟩).put m c.file ⟨c.name, f.row, f.zs⟩).fl r = some g := fun m => by show (if _ then _ else S.fl r) = _; rw [if_neg h5]; exact hg
    refine (dundo_renamed2 h hfl c.size (st : Int) c.name hns hcm hn hno hg h5 (Nat.le_trans (hb.nms _ g hg) hl160)).mono ?_
    rintro e w' ⟨rfl, m, m2, k1, k2⟩
    have hat4 : ∀ x, (((S.drop f).file c.file ⟨c.name, f.row, f.zs⟩).put m c.file ⟨c.name, f.row, f.zs⟩).at x = if x = c.name then some c.file else if x = f.nm then none else S.at x := fun x => by
      rw [at_put td3.tidy.isMap]
      show (if x = c.name then some c.file else (S.drop f).at x) = _
      rw [at_drop]
    have hgz := hb.zsl _ g hg
    refine ⟨rfl, _, _, k1, k2, rfl, rfl, rfl, ?_, (j4 m).put (td4 m) (hg3 m) ?_ m2 (fun x hx => ?_) ?_, by show S.n + 1 + 1 ≤ _; omega, (td4 m).put m2 r g, (b4 m).same rfl rfl⟩
    · rw [Dsk.vw_put (td4 m).tidy.isMap, v4, hgn]
      unfold Vw.undo
      rw [if_neg (by omega), if_neg (by omega), if_neg (by omega), hnm, h4]
      simp only
      rw [h6, hnm2]
    · rw [hat4, hgn, h2, if_neg (fun k => h7 (by rw [← k, hnm2])), if_pos rfl]
    · rw [hat4] at hx
      split at hx
      · cases hx; exact h5 rfl
      · split at hx
        · cases hx
        · rename_i _ e
          have := hab.nm x r hx
          rw [h6] at this
          exact e (this.symm.trans hnm2.symm)
    · rw [used_with]
      show usedF (withoutF l f.nm) + f.zs.length + g.zs.length ≤ _
      omega
end Go.Proofs.Ytmomdfmilelilaa
