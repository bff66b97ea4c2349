/-
  The walks over Parse and the document's Parse and Text.
-/
import Derived.Test.YtjoomfikfbbnmaaDoorPkc
import Derived.Test.YtjoomfikfbbnmaaDoorUnr
import Derived.Test.YtjoomfikfbbnmaaDoorHxr
import Derived.Laws.ResultCell
namespace Go.Proofs.YtjoomfikfbbnmaaDoor
open Go.RowKit
set_option linter.unusedVariables false

theorem results_row_tmp {P : Program} {fn : Func} {p u : Tmp} {ty : TypeId} (h : fn.results = #[.cell p ty, .tmp u]) (tmps : Array Value) (w : World) (g : Nat) (t : TypeId) (cs : Array Value) (fr : Nat × Nat) (d : TypeDesc)
    (hp : tmps.getD p undef = .pointer (some ⟨g, 0, none⟩)) (hg : w.heap[g]? = some (.cells cs t fr))
    (hu : P.underlying ty = some d) (hd : (match d with | .struct _ | .array _ _ => true | _ => false) = true) (hi : (P.info? ty).map (·.size) = some cs.size) :
    (results fn tmps).run P w = .ok (.tuple #[.agg cs, tmps.getD u undef]) w := by
  rw [results_cell_tmp h]
  have hp' : tmps[p]?.getD undef = .pointer (some ⟨g, 0, none⟩) := by simpa using hp
  simp [hp', asAddr, run_loadVar_row w g t ty cs fr d hg hu hd hi, Result.andThen]
theorem len_a32 : Tryd.prog.arrayLen 25 = 32 := by kernel_rfl
theorem elem_a32 : Tryd.prog.elem 25 = 5 := by kernel_rfl
theorem und_a32' : Tryd.prog.underlying 25 = some (.array (Tryd.prog.arrayLen 25) (Tryd.prog.elem 25)) := by rw [elem_a32, len_a32]; exact Tryd.underlying25
theorem run_a32All (W : World) (g o : Nat) :
    (Instr.sliceAt 25 (.pointer (some ⟨g, o, none⟩)) none none none).run Tryd.prog W = .ok (.slice (some ⟨g, o, none⟩) 32 32) W := by
  rw [run_sliceAt_array_all W _ _ und_a32', elem_a32, sizeOf_u8, len_a32]
  simp [Result.andThen, slicedAt, Addr.add]
/-- the prefix -/
def pfx : List Nat := [115, 104, 97, 50, 53, 54, 58]
def pre7 (s : ByteArray) : Bool := (s.extract 0 7).toList == [115, 104, 97, 50, 53, 54, 58]
/-- the sum that a text is, if it is one -/
def pz (s : ByteArray) : Option (List Nat) := if s.size = 71 ∧ pre7 s = true then Unm.un (chars (s.extract 7 s.size)) else none
theorem un_len : ∀ (l m : List Nat), Unm.un l = some m → l.length = 2 * m.length ∧ ∀ z ∈ m, z < 256 := by
  intro l
  induction l using Unm.un.induct with
  | case1 => intro m h; simp [Unm.un] at h; subst h; simp
  | case2 x => intro m h; simp [Unm.un] at h
  | case3 x y r a b ha hb ih =>
    intro m h
    rw [Unm.un, ha, hb] at h
    simp only [Option.map_eq_some_iff] at h
    obtain ⟨m', hm, rfl⟩ := h
    have h1 := ih m' hm
    have h2 := Unm.hv_lt ha
    have h3 := Unm.hv_lt hb
    refine ⟨by simp [h1.1]; omega, ?_⟩
    intro z hz
    rcases List.mem_cons.1 hz with rfl | hz
    · omega
    · exact h1.2 z hz
  | case4 x y r hn =>
    intro m h
    rw [Unm.un] at h
    split at h <;> simp_all
theorem pz_len {s : ByteArray} {m : List Nat} (h : pz s = some m) : m.length = 32 ∧ ∀ z ∈ m, z < 256 := by
  unfold pz at h
  split at h
  · rename_i hc
    have h1 := un_len _ _ h
    rw [chars_len, ByteArray.size_extract] at h1
    refine ⟨by omega, h1.2⟩
  · simp at h
def ParRet (w : World) (r : Option (List Nat)) (e : Ending) (w' : World) : Prop :=
  e = .returned (.tuple #[.agg (cellsOf (r.getD zs32)).toArray, .int .i64 (if r.isSome then 0 else 10)]) ∧ Below w.heap.size w w'
theorem pz_len71 {s : ByteArray} (h : ¬ s.size = 71) : pz s = none := by unfold pz; rw [if_neg (fun h' => h h'.1)]
theorem pz_pre {s : ByteArray} (h : pre7 s = false) : pz s = none := by unfold pz; rw [if_neg (fun h' => by rw [h] at h'; simp at h')]
theorem pz_un {s : ByteArray} (h : s.size = 71) (hp : pre7 s = true) : pz s = Unm.un (chars (s.extract 7 s.size)) := by unfold pz; rw [if_pos ⟨h, hp⟩]
def AD (w : World) (t : TypeId) (W : World) : Prop := Brow W w.heap.size t zs32 ∧ Brow W (w.heap.size + 1) t zs32 ∧ Below w.heap.size w W
set_option maxRecDepth 100000 in
set_option maxHeartbeats 1000000 in
theorem parse_c (s : ByteArray) (w : World) (hs : s.size ≤ 140737488351232) :
    Calls Tryd.prog 29 #[.string s] w (ParRet w (pz s)) := by
  have HI32 := Lib.hid (show (Tryd.prog.info? 26).map (·.size) = some (cellsOf zs32).toArray.size from by rw [cellsOf_size, zs32_len]; exact info_dig)
  have HN := Lib.hid (show ∀ X Y : Obj, ((w.alloc X).alloc Y).heap[w.heap.size]? = some X from fun X Y => (heap_new2 w X Y).1)
  have HBN := Lib.hid (show ∀ X Y : Obj, Below w.heap.size w (((w.alloc X).alloc Y).setRow w.heap.size (cellsOf zs32).toArray) from fun X Y => (((Below.refl _ _).alloc (Nat.le_refl _) _).alloc (by simp) _).setRow (Nat.le_refl _) _)
  have FIN : ∀ W W' : World, pz s = none → W.heap[w.heap.size]? = some (.cells (cellsOf zs32).toArray 26 (0, 0)) → Below w.heap.size w (W.setRow w.heap.size (cellsOf zs32).toArray) → ParRet w (pz s) (.returned (.tuple #[.agg (cellsOf zs32).toArray, .int .i64 10])) (W.setRow w.heap.size (cellsOf zs32).toArray) :=
    fun W W' h _ hb => by rw [h]; exact ⟨rfl, hb⟩
  have FIN := Lib.hid FIN
  by_cases h71 : s.size = 71
  · have h71i : ((s.size : Int) != 71) = false := by simp [h71]
    have hle : (7 : Int) ≤ (s.size : Int) := by omega
    cases hp : pre7 s with
    | false =>
      have HP := Lib.hid (pz_pre hp)
      unfold pre7 at hp
      have hp1 : (!(s.extract 0 7).toList == [115, 104, 97, 50, 53, 54, 58]) = true := by rw [hp]; rfl
      clear h71 hp
      go_enter Tryd.func29, Tryd.ntmps29
      go_wp2_with (first | (refine wpList_store_row (by rfl) 26 _ _ (by rfl) w.heap.size (cellsOf zs32).toArray (by rfl) (by rfl) 26 (cellsOf zs32).toArray (by exact HN.out _ _) HI32.out rfl (cellsOf_all _) ?_))
      refine bodyPost_ret (results_row_tmp (by rfl) _ _ w.heap.size _ (cellsOf zs32).toArray (0, 0) _ (by rfl) (setRow_heap _ _ _ _ _ _ (HN.out _ _)) Tryd.underlying26 (by rfl) HI32.out) ?_ ?_
      · rfl
      · exact FIN.out _ w HP.out (HN.out _ _) (HBN.out _ _)
    | true =>
      have HZ := Lib.hid (pz_un h71 hp)
      unfold pre7 at hp
      have hp1 : (!(s.extract 0 7).toList == [115, 104, 97, 50, 53, 54, 58]) = false := by rw [hp]; rfl
      have HXS := Lib.hid (show (s.extract 7 s.size).size ≤ 140000000000000 from by rw [ByteArray.size_extract]; omega)
      clear h71 hp
      go_enter Tryd.func29, Tryd.ntmps29
      go_wp2_with fail
      refine gen_calls (F := AD w 26) ⟨(heap_new2 _ _ _).1, (heap_new2 _ _ _).2, ((Below.refl _ _).alloc (Nat.le_refl _) _).alloc (by simp) _⟩ ?_
      rintro w0 ⟨hd0, he0, hb0⟩
      refine (unhex_c (s.extract 7 s.size) w0 HXS.out).mono ?_
      rintro e1 w1 ⟨v, rfl, ho, hb1⟩
      rw [← HZ.out] at ho ⊢
      have hd1 := hd0.below hb1 hd0.lt
      have he1 := he0.below hb1 he0.lt
      have hw1 := hb0.trans (hb1.mono hb0.size)
      clear hd0 he0 hb0 hb1
      cases hpz : pz s with
      | none =>
        have HD1 := Lib.hid hd1
        have HW1 := Lib.hid (hw1.setRow (Nat.le_refl _) (cellsOf zs32).toArray)
        have HPZ := Lib.hid hpz
        clear hd1 he1 hw1 ho hpz
        simp only [Option.isSome_none, Bool.false_eq_true, if_false]
        go_wp2_with (first | (refine wpList_store_row (by rfl) 26 _ _ (by rfl) w.heap.size (cellsOf zs32).toArray (by rfl) (by rfl) 26 (cellsOf zs32).toArray HD1.out HI32.out rfl (cellsOf_all _) ?_))
        refine bodyPost_ret (results_row_tmp (by rfl) _ _ w.heap.size _ (cellsOf zs32).toArray (0, 0) _ (by rfl) (setRow_heap _ _ _ _ _ _ HD1.out) Tryd.underlying26 (by rfl) HI32.out) ?_ ?_
        · rfl
        · exact FIN.out _ w HPZ.out HD1.out HW1.out
      | some m =>
        have hm := pz_len hpz
        rw [hpz] at ho
        simp only [Option.getD_some] at ho
        have HPZ := Lib.hid hpz
        obtain ⟨a2, L2, c2, rfl, hl2, hlc2, hc2, hn2, hr2, ho2⟩ := ho.form hm.2
        obtain rfl : L2 = 32 := by rw [← hl2, hm.1]
        have hsrc := fun h0 => hr2.src 32 (Nat.le_refl _) h0
        rw [List.take_of_length_le (by rw [hm.1]; omega)] at hsrc
        have HSRC := Lib.hid hsrc
        have HD1 := Lib.hid hd1
        have HE1 := Lib.hid he1
        have HW1 := Lib.hid hw1
        have HM := Lib.hid hm
        have HDA := fun W => run_digAll W (w.heap.size + 1) 0
        clear hd1 he1 hw1 ho ho2 hr2 hpz hm hsrc hl2 hlc2 hc2
        simp only [Option.isSome_some, if_true]
        go_wp2_with (refine wpList_copy_only rfl (.tmp 25) (.tmp 26) 58 58 rfl 5 Tryd.underlying58 u8size _ _ _ _ _ _ rfl rfl (w.heap.size + 1) 0 (cellsOf zs32) 26 HE1.out (cellsOf m) (by rw [cellsOf_length, HM.out.1]; rfl) (fun h0 => ⟨rfl, HSRC.out h0⟩) (by rw [cellsOf_length, cellsOf_length, HM.out.1, zs32_len]; omega) (cellsOf_one _) ?_)
        intro w2 hrow2 ho2
        have HE2 := Brow.copied hrow2
        rw [splice_whole zs32 m (by rw [zs32_len, HM.out.1])] at HE2
        have HE2 := Lib.hid HE2
        have HD2 := Lib.hid (HD1.out.only ho2 (by omega))
        have hsz1 := HW1.out.size
        have HW2 := Lib.hid (HW1.out.trans (ho2.below (by omega) hsz1))
        clear hrow2 ho2 HDA
        have HIM := Lib.hid (show (Tryd.prog.info? 26).map (·.size) = some (cellsOf m).toArray.size from by rw [cellsOf_size, HM.out.1]; exact info_dig)
        have hszm := Lib.hid (show (cellsOf zs32).toArray.size = (cellsOf m).toArray.size from by rw [cellsOf_size, cellsOf_size, HM.out.1, zs32_len])
        go_wp2_with (first | (refine wpList_load_row (by rfl) 26 _ (by rfl) (w.heap.size + 1) (by rfl) _ (cellsOf m).toArray (0, 0) _ HE2.out Tryd.underlying26 (by rfl) HIM.out ?_) | (refine wpList_store_row (by rfl) 26 _ _ (by rfl) w.heap.size (cellsOf m).toArray (by rfl) (by rfl) 26 (cellsOf zs32).toArray HD2.out HIM.out hszm.out (cellsOf_all _) ?_))
        refine bodyPost_ret (results_row_tmp (by rfl) _ _ w.heap.size _ (cellsOf m).toArray (0, 0) _ (by rfl) (setRow_heap _ _ _ _ _ _ HD2.out) Tryd.underlying26 (by rfl) HIM.out) ?_ ?_
        · rfl
        · rw [HPZ.out]
          exact ⟨rfl, HW2.out.setRow (Nat.le_refl _) _⟩
  · have h71i : ((s.size : Int) != 71) = true := by simp; omega
    have HP := Lib.hid (pz_len71 h71)
    have h71j : ¬ (s.size : Int) = 71 := by omega
    clear h71
    go_enter Tryd.func29, Tryd.ntmps29
    go_wp2_with (first | (refine wpList_store_row (by rfl) 26 _ _ (by rfl) w.heap.size (cellsOf zs32).toArray (by rfl) (by rfl) 26 (cellsOf zs32).toArray (by exact HN.out _ _) HI32.out rfl (cellsOf_all _) ?_))
    refine bodyPost_ret (results_row_tmp (by rfl) _ _ w.heap.size _ (cellsOf zs32).toArray (0, 0) _ (by rfl) (setRow_heap _ _ _ _ _ _ (HN.out _ _)) Tryd.underlying26 (by rfl) HI32.out) ?_ ?_
    · rfl
    · exact FIN.out _ w HP.out (HN.out _ _) (HBN.out _ _)
def ParRetB (w : World) (r : Option (List Nat)) (e : Ending) (w' : World) : Prop :=
  e = .returned (.tuple #[.agg (cellsOf (r.getD zs32)).toArray, .bool r.isSome]) ∧ Below w.heap.size w w'
theorem info_a32' : (Tryd.prog.info? 25).map (·.size) = some 32 := by kernel_rfl
theorem pz_pre' {s : ByteArray} (h : pre7 s = false) : pz s = none := pz_pre h
def PS (w : World) (gb : Nat) (m : List Nat) (k : Nat) (W : World) : Prop :=
  Brow W w.heap.size 25 zs32 ∧ Brow W (w.heap.size + 1) 25 (m.take k ++ List.replicate (32 - k) 0) ∧ Rd W (some ⟨gb, 0, none⟩) 32 m ∧ Below w.heap.size w W
theorem PS.next {w : World} {gb : Nat} {m : List Nat} {k : Nat} {W : World} (h : PS w gb m k W) (hk : k < 32) (hm : m.length = 32) (hg : gb ≠ w.heap.size + 1) (z : Nat) (hz : z = m.getD k 0) : PS w gb m (k + 1) (W.setCell ⟨w.heap.size + 1, k, none⟩ (.int .u8 (z : Int))) := by
  obtain ⟨h1, h2, h3, h4⟩ := h
  have o : Only (w.heap.size + 1) W (W.setCell ⟨w.heap.size + 1, k, none⟩ (.int .u8 (z : Int))) := (Only.refl _ _).setCell _ _
  refine ⟨h1.only o (by omega), ?_, o.rd h3 (fun b off hb => by simp at hb; omega), h4.setCell (by simp) _⟩
  have h := h2.set k z
  have hl : (m.take k).length = k := by rw [List.length_take]; omega
  rw [List.set_append_right _ _ (by omega), hl, Nat.sub_self, show 32 - k = (32 - (k + 1)) + 1 by omega, List.replicate_succ, List.set_cons_zero] at h
  rw [take_snoc m k (by omega), List.append_assoc]
  rw [hz, getD_at m k (by omega)] at h ⊢
  exact h
set_option maxRecDepth 100000 in
set_option maxHeartbeats 1000000 in
theorem refParse_c (s : ByteArray) (w : World) (hs : s.size ≤ 140737488351232) :
    Calls Tryd.prog 31 #[.string s] w (ParRetB w (pz s)) := by
  have HI32 := Lib.hid (show (Tryd.prog.info? 25).map (·.size) = some (cellsOf zs32).toArray.size from by rw [cellsOf_size, zs32_len]; exact info_a32')
  have HN := Lib.hid (show ∀ X Y : Obj, ((w.alloc X).alloc Y).heap[w.heap.size]? = some X from fun X Y => (heap_new2 w X Y).1)
  have HN1 := Lib.hid (show ∀ X Y : Obj, ((w.alloc X).alloc Y).heap[w.heap.size + 1]? = some Y from fun X Y => (heap_new2 w X Y).2)
  have HBN := Lib.hid (show ∀ X Y : Obj, Below w.heap.size w (((w.alloc X).alloc Y).setRow w.heap.size (cellsOf zs32).toArray) from fun X Y => (((Below.refl _ _).alloc (Nat.le_refl _) _).alloc (by simp) _).setRow (Nat.le_refl _) _)
  have FIN := Lib.hid (show ∀ W : World, pz s = none → Below w.heap.size w (W.setRow w.heap.size (cellsOf zs32).toArray) → ParRetB w (pz s) (.returned (.tuple #[.agg (cellsOf zs32).toArray, .bool false])) (W.setRow w.heap.size (cellsOf zs32).toArray) from
    fun W h hb => by rw [h]; exact ⟨rfl, hb⟩)
  by_cases h71 : s.size = 71
  · have h71i : ((s.size : Int) != 71) = false := by simp [h71]
    have hle : (7 : Int) ≤ (s.size : Int) := by omega
    have HXS := Lib.hid (show (s.extract 7 s.size).size ≤ 140000000000000 from by rw [ByteArray.size_extract]; omega)
    have H71 := Lib.hid h71
    clear h71
    go_enter Tryd.func31, Tryd.ntmps31
    go_wp2_with fail
    refine gen_calls (F := AD w 25) ⟨(heap_new2 _ _ _).1, (heap_new2 _ _ _).2, ((Below.refl _ _).alloc (Nat.le_refl _) _).alloc (by simp) _⟩ ?_
    rintro w0 ⟨hd0, he0, hb0⟩
    refine (refUnhex_c (s.extract 7 s.size) w0 HXS.out).mono ?_
    rintro e1 w1 ⟨v, rfl, ho, hb1⟩
    have hgl := he0.lt
    have hd1 := hd0.below hb1 hd0.lt
    have he1 := he0.below hb1 he0.lt
    have hw1 := hb0.trans (hb1.mono hb0.size)
    clear hd0 he0 hb0 hb1
    cases hun : Unm.un (chars (s.extract 7 s.size)) with
    | none =>
      have HPZ := Lib.hid (show pz s = none from by unfold pz; split; exact hun; rfl)
      have HD1 := Lib.hid hd1
      have HE1 := Lib.hid he1
      have HW1 := Lib.hid (hw1.setRow (Nat.le_refl _) (cellsOf zs32).toArray)
      clear hd1 he1 hw1 ho hun
      simp only [Option.isSome_none]
      go_wp2_with (first | (refine wpList_load_row (by rfl) 25 _ (by rfl) (w.heap.size + 1) (by rfl) _ (cellsOf zs32).toArray (0, 0) _ HE1.out Tryd.underlying25 (by rfl) HI32.out ?_) | (refine wpList_store_row (by rfl) 25 _ _ (by rfl) w.heap.size (cellsOf zs32).toArray (by rfl) (by rfl) 25 (cellsOf zs32).toArray HD1.out HI32.out rfl (cellsOf_all _) ?_))
      refine bodyPost_ret (results_row_tmp (by rfl) _ _ w.heap.size _ (cellsOf zs32).toArray (0, 0) _ (by rfl) (setRow_heap _ _ _ _ _ _ HD1.out) Tryd.underlying25 (by rfl) HI32.out) ?_ ?_
      · rfl
      · exact FIN.out _ HPZ.out HW1.out
    | some m =>
      rw [hun] at ho
      simp only [Option.getD_some, Option.isSome_some] at ho ⊢
      cases hp : pre7 s with
      | false =>
        have HPZ := Lib.hid (pz_pre hp)
        unfold pre7 at hp
        have hp1 : (!(s.extract 0 7).toList == [115, 104, 97, 50, 53, 54, 58]) = true := by rw [hp]; rfl
        have HD1 := Lib.hid hd1
        have HE1 := Lib.hid he1
        have HW1 := Lib.hid (hw1.setRow (Nat.le_refl _) (cellsOf zs32).toArray)
        clear hd1 he1 hw1 ho hun hp
        go_wp2_with (first | (refine wpList_load_row (by rfl) 25 _ (by rfl) (w.heap.size + 1) (by rfl) _ (cellsOf zs32).toArray (0, 0) _ HE1.out Tryd.underlying25 (by rfl) HI32.out ?_) | (refine wpList_store_row (by rfl) 25 _ _ (by rfl) w.heap.size (cellsOf zs32).toArray (by rfl) (by rfl) 25 (cellsOf zs32).toArray HD1.out HI32.out rfl (cellsOf_all _) ?_))
        refine bodyPost_ret (results_row_tmp (by rfl) _ _ w.heap.size _ (cellsOf zs32).toArray (0, 0) _ (by rfl) (setRow_heap _ _ _ _ _ _ HD1.out) Tryd.underlying25 (by rfl) HI32.out) ?_ ?_
        · rfl
        · exact FIN.out _ HPZ.out HW1.out
      | true =>
        have hpz : pz s = some m := by rw [pz_un H71.out hp, hun]
        have hm := pz_len hpz
        unfold pre7 at hp
        have hp1 : (!(s.extract 0 7).toList == [115, 104, 97, 50, 53, 54, 58]) = false := by rw [hp]; rfl
        obtain ⟨a2, L2, c2, rfl, hl2, hlc2, hc2, hn2, hr2, ho2⟩ := ho.form hm.2
        obtain rfl : L2 = 32 := by rw [← hl2, hm.1]
        obtain ⟨gb, rfl, hgb⟩ : ∃ gb, a2 = some ⟨gb, 0, none⟩ ∧ w0.heap.size ≤ gb := by
          rcases ho2.2 with ⟨h0, h1⟩ | ⟨gb, cp, cur, hv, hgb, _⟩
          · rw [hm.1] at h1; omega
          · simp only [Value.slice.injEq] at hv
            exact ⟨gb, hv.1, hgb⟩
        have HPZ := Lib.hid hpz
        have HM := Lib.hid hm
        have HS0 := Lib.hid (show PS w gb m 0 w1 from ⟨hd1, by rw [List.take_zero]; exact he1, hr2, hw1⟩)
        have hne : gb ≠ w.heap.size + 1 := by omega
        clear hd1 he1 hw1 ho ho2 hr2 hpz hm hun hp hl2 hlc2 hc2 hn2
        go_wp2_with fail
        go_loopw [7] (fun i wr => ∃ k : Nat, k ≤ 32 ∧ i = .int .i64 k ∧ Hid (PS w gb m k wr)) (fun i _ => 32 - (intOf i).toNat)
        case atStart => exact ⟨0, by omega, rfl, HS0⟩
        case round =>
          clear HS0
          obtain ⟨k, hk, rfl, HS⟩ := hrel
          by_cases hk32 : k < 32
          · obtain ⟨z, hz⟩ : ∃ z, z = m.getD k 0 := ⟨_, rfl⟩
            have HNX := Lib.hid (HS.out.next hk32 HM.out.1 hne z hz)
            have hcs : wr.cell? ⟨gb, k, none⟩ = some (.int .u8 (z : Int)) := by
              rcases HS.out.2.2.1.2.2 with h0 | ⟨b, off, hb, _, hc⟩
              · omega
              · simp only [Option.some.injEq, Addr.mk.injEq, and_true] at hb
                obtain ⟨rfl, rfl⟩ := hb
                rw [hz]
                have := hc k hk32
                rwa [Nat.zero_add] at this
            have hcd := HS.out.2.1.cell k (by rw [List.length_append, List.length_take, List.length_replicate]; have := HM.out.1; omega)
            have hfd := HS.out.2.1.frozen k
            obtain ⟨o, ho⟩ : ∃ o, o = (m.take k ++ List.replicate (32 - k) 0).getD k 0 := ⟨_, rfl⟩
            rw [← ho] at hcd
            clear ho hz
            have q1 : (0 : Int) ≤ (k : Int) := by omega
            have q2 : (k : Int) < 32 := by omega
            go_wp2
            go_roundw
            case rel => exact ⟨k + 1, by omega, by go_num, HNX⟩
            case measure => simp [intOf]; omega
          · obtain rfl : k = 32 := by omega
            have hE := HS.out.2.1
            rw [List.take_of_length_le (by have := HM.out.1; omega), Nat.sub_self, List.replicate_zero, List.append_nil] at hE
            have HE := Lib.hid hE
            have HIM := Lib.hid (show (Tryd.prog.info? 25).map (·.size) = some (cellsOf m).toArray.size from by rw [cellsOf_size, HM.out.1]; exact info_a32')
            have hszm := Lib.hid (show (cellsOf zs32).toArray.size = (cellsOf m).toArray.size from by rw [cellsOf_size, cellsOf_size, HM.out.1, zs32_len])
            clear hE
            go_wp2_with (first | (refine wpList_load_row (by rfl) 25 _ (by rfl) (w.heap.size + 1) (by rfl) _ (cellsOf m).toArray (0, 0) _ HE.out Tryd.underlying25 (by rfl) HIM.out ?_) | (refine wpList_store_row (by rfl) 25 _ _ (by rfl) w.heap.size (cellsOf m).toArray (by rfl) (by rfl) 25 (cellsOf zs32).toArray HS.out.1 HIM.out hszm.out (cellsOf_all _) ?_))
            refine bodyPost_ret (results_row_tmp (by rfl) _ _ w.heap.size _ (cellsOf m).toArray (0, 0) _ (by rfl) (setRow_heap _ _ _ _ _ _ HS.out.1) Tryd.underlying25 (by rfl) HIM.out) ?_ ?_
            · rfl
            · rw [HPZ.out]
              exact ⟨rfl, HS.out.2.2.2.setRow (Nat.le_refl _) _⟩
  · have h71i : ((s.size : Int) != 71) = true := by simp; omega
    have HP := Lib.hid (pz_len71 h71)
    have h71j : ¬ (s.size : Int) = 71 := by omega
    clear h71
    go_enter Tryd.func31, Tryd.ntmps31
    go_wp2_with (first | (refine wpList_load_row (by rfl) 25 _ (by rfl) (w.heap.size + 1) (by rfl) _ (cellsOf zs32).toArray (0, 0) _ (by exact HN1.out _ _) Tryd.underlying25 (by rfl) HI32.out ?_) | (refine wpList_store_row (by rfl) 25 _ _ (by rfl) w.heap.size (cellsOf zs32).toArray (by rfl) (by rfl) 25 (cellsOf zs32).toArray (by exact HN.out _ _) HI32.out rfl (cellsOf_all _) ?_))
    refine bodyPost_ret (results_row_tmp (by rfl) _ _ w.heap.size _ (cellsOf zs32).toArray (0, 0) _ (by rfl) (setRow_heap _ _ _ _ _ _ (HN.out _ _)) Tryd.underlying25 (by rfl) HI32.out) ?_ ?_
    · rfl
    · exact FIN.out _ HP.out (HBN.out _ _)
set_option maxRecDepth 100000 in
theorem reftext_c (d : List Nat) (w : World) (hl : d.length = 32) (hb : ∀ z ∈ d, z < 256) :
    Calls Tryd.prog 33 #[.agg (cellsOf d).toArray] w (RetS w.heap.size (str ([115, 104, 97, 50, 53, 54, 58] ++ hex d)) w) := by
  have HDA := fun W => run_a32All W w.heap.size 0
  have hs : ¬ 9223372036854775807 < 7 + (str (hex d)).size := by
    have : (str (hex d)).size = 64 := by
      show ((hex d).map UInt8.ofNat).toArray.size = 64
      rw [List.size_toArray, List.length_map, hex_len, hl]
    omega
  go_enter Tryd.func33, Tryd.ntmps33
  go_wp2_with fail
  refine gen_calls (F := fun W => Brow W w.heap.size 25 d ∧ Below w.heap.size w W) ⟨heap_new _ _, (Below.refl _ _).alloc (Nat.le_refl _) _⟩ ?_
  rintro w0 ⟨hd0, hb0⟩
  have hrd := hd0.rd hb
  rw [hl] at hrd
  refine (refHex_c (some ⟨w.heap.size, 0, none⟩) 32 32 d w0 hrd (by omega)).mono ?_
  rintro e1 w1 ⟨rfl, hb1⟩
  have HB := Lib.hid (hb0.trans (hb1.mono hb0.size))
  clear HDA hd0 hb0 hrd hb1
  go_wp2
  go_ret
  refine ⟨?_, HB.out⟩
  have e := str_hex d
  simp only [List.cons_append, List.nil_append] at e
  rw [← e]
  rfl
end Go.Proofs.YtjoomfikfbbnmaaDoor
