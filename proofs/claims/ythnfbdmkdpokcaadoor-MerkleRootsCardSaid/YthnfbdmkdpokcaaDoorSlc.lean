/-
  Cutting bytes: pieces of slices and of arrays.
-/
import Derived.Test.YthnfbdmkdpokcaaDoorStm
namespace Go.Proofs.YthnfbdmkdpokcaaDoor
open Go.RowKit
set_option linter.unusedVariables false

theorem Only.setRow {g : Nat} {a w : World} (h : Only g a w) (cs : Array Value) : Only g a (w.setRow g cs) :=
  ⟨h.os, h.tape, h.output, by simp [h.size], fun k hk hg => (setRow_other w g k cs hg).trans (h.block k hk hg)⟩
/-- the block that an address lies in -/
def blkOf (a : Option Addr) : Option Nat := a.map (·.block)
theorem Only.rd' {g : Nat} {w w' : World} (h : Only g w w') {a : Option Addr} {len : Nat} {zs : List Nat} (hr : Rd w a len zs) (hg : 0 < len → blkOf a ≠ some g) : Rd w' a len zs := by
  by_cases h0 : 0 < len
  · exact h.rd hr fun b off hb => by
      have := hg h0
      rw [hb] at this
      simpa [blkOf] using this
  · exact ⟨hr.1, hr.2.1, .inl (by omega)⟩
theorem Rd.blk {w : World} {a : Option Addr} {len : Nat} {zs : List Nat} (hr : Rd w a len zs) (g : Nat) (hg : w.heap.size ≤ g) : 0 < len → blkOf a ≠ some g := by
  intro h0
  rcases hr.2.2 with h | ⟨b, off, rfl, hb, _⟩
  · omega
  · simp [blkOf]; omega
/-- copy(d, s) into a row -/
theorem wpList_copy_only {P : Program} {w : World} {ops : Array Oper} {rest : List Oper} {o : Oper} {a : Act} {Q : Exit → Act → World → Prop} (hgd : o.guard = none) (d s : Operand) (dT sT : TypeId)
    (ho : o.op = .call { callee := .builtin .copy, args := #[d, s], argTypes := #[dT, sT] }) (elem : TypeId) (hu : P.underlying dT = some (.slice elem)) (hsz : (P.info? elem).map (·.size) = some 1)
    (dp sp : Option Addr) (dLen dCap sLen sCap : Nat) (hd : a.eval d = .slice dp dLen dCap) (hs : a.eval s = .slice sp sLen sCap)
    (g off : Nat) (cur : List Value) (t : TypeId) (hg : w.heap[g]? = some (.cells cur.toArray t (0, 0))) (cs : List Value) (hn : cs.length = Nat.min sLen dLen)
    (hpos : 0 < cs.length → dp = some ⟨g, off, none⟩ ∧ ∃ ad, sp = some ad ∧ ∀ j v, cs[j]? = some v → w.cell? (ad.add j) = some v)
    (hfit : off + cs.length ≤ cur.length) (h1 : ∀ v ∈ cs, v.oneCell' = true)
    (h : ∀ w', Hid (w'.heap[g]? = some (.cells (splice cur off cs).toArray t (0, 0))) → Only g w w' → wpList P ops Q rest (a.put o.dst (.int .i64 (cs.length : Int))) w') :
    wpList P ops Q (o :: rest) a w := by
  by_cases h0 : cs.length = 0
  · obtain rfl : cs = [] := List.eq_nil_of_length_eq_zero h0
    refine wpList_copy_nothing hgd d s dT sT ho elem hu hsz dp sp dLen dCap sLen sCap hd hs (by simpa using hn.symm) ?_
    exact h w (show _ = _ by simpa [splice] using hg) (Only.refl _ _)
  · obtain ⟨rfl, ad, rfl, hsrc⟩ := hpos (by omega)
    refine wpList_copy_own hgd d s dT sT ho elem hu hsz g off dLen dCap ad sLen sCap hd hs cur.toArray t hg cs hn hsrc (by simpa using hfit) h1 ?_
    exact h _ (show _ = _ by simpa [splice] using setRow_heap w g _ _ t _ hg) ((Only.refl _ _).setRow _)
/-- what is read, cell by cell -/
theorem Rd.src {w : World} {a : Option Addr} {len : Nat} {zs : List Nat} (h : Rd w a len zs) (m : Nat) (hm : m ≤ len) (h0 : 0 < (cellsOf (zs.take m)).length) :
    ∃ ad, a = some ad ∧ ∀ j v, (cellsOf (zs.take m))[j]? = some v → w.cell? (ad.add j) = some v := by
  obtain ⟨h1, h2, h3⟩ := h
  rw [cellsOf_length, List.length_take] at h0
  rcases h3 with h3 | ⟨b, off, rfl, hb, hcell⟩
  · omega
  · refine ⟨_, rfl, fun j v hv => ?_⟩
    have hj : j < m := by
      have := (List.getElem?_eq_some_iff.1 hv).1
      rw [cellsOf_length, List.length_take] at this
      omega
    rw [cellsOf_get _ _ (by rw [List.length_take]; omega)] at hv
    cases hv
    rw [Addr.add_mid, hcell j (by omega)]
    simp [hj]
/-- a load as a still step -/
theorem wpStill_load {P : Program} {ops : Array Oper} {w : World} {Q : Act → Prop} {rest : List Oper} {o : Oper} {a : Act} (hgd : o.guard = none) (ty : TypeId) (x : Operand) (ho : o.op = .load ty x)
    (p : Value) (hx : a.eval x = p) (v : Value) (hrun : (Instr.loadAt ty p).run P w = .ok v w) (h : wpStill P ops w Q rest (a.put o.dst v)) : wpStill P ops w Q (o :: rest) a := by
  have hw : Region.wanted o (yielded ops a.tmps) = true := by simp [Region.wanted, hgd]
  subst hx
  unfold wpStill
  rw [if_pos hw]
  unfold Oper.still execOp
  simp only [ho, hrun, Sem.run_bind, Result.andThen_ok, Sem.run_pure]
  exact ⟨rfl, h⟩
theorem u8size : (Tryd.prog.info? 5).map (·.size) = some 1 := by kernel_rfl
/-- where the bytes from m on lie -/
def sla (a : Option Addr) (cap m : Nat) : Option Addr := if cap = m then a else a.map (·.add m)
theorem sizeOf_u8 (W : World) : (Go.sizeOf 5).run Tryd.prog W = .ok 1 W := by
  obtain ⟨i0, hi, hz0, hz1, hz2⟩ := info_parts byteInfo
  simp [Go.sizeOf, typeInfo, hi, hz1]
theorem elem_bytes : Tryd.prog.elem 23 = 5 := by kernel_rfl
theorem und_bytes : Tryd.prog.underlying 23 = some (.slice (Tryd.prog.elem 23)) := by rw [elem_bytes]; exact Tryd.underlying23
/-- p[m:] -/
theorem run_cut (W : World) (a : Option Addr) (len cap m : Nat) (h : m ≤ len) :
    (Instr.slice 23 (.slice a len cap) (some (.int .i64 (m : Int))) none none).run Tryd.prog W = .ok (.slice (sla a cap m) (len - m) (cap - m)) W := by
  rw [run_slice_l W _ a len cap und_bytes .i64 (m : Int) (by omega) (by omega), elem_bytes, sizeOf_u8]
  simp [Result.andThen, sliced, sla]
theorem run_cutAt (W : World) (a : Option Addr) (len cap m : Nat) (h : m ≤ len) :
    (Instr.sliceAt 23 (.slice a len cap) (some (.int .i64 (m : Int))) none none).run Tryd.prog W = .ok (.slice (sla a cap m) (len - m) (cap - m)) W := by
  rw [run_sliceAt_slice W _ _ _ _ _ und_bytes]
  exact run_cut W a len cap m h
theorem add_zero' (a : Option Addr) : a.map (·.add 0) = a := by
  cases a with
  | none => rfl
  | some a => obtain ⟨b, o, s⟩ := a; cases s <;> simp [Addr.add]
/-- p[:m] -/
theorem run_head (W : World) (a : Option Addr) (len cap m : Nat) (h : m ≤ cap) :
    (Instr.slice 23 (.slice a len cap) none (some (.int .i64 (m : Int))) none).run Tryd.prog W = .ok (.slice a m cap) W := by
  rw [run_slice_h W _ a len cap und_bytes .i64 (m : Int) (by omega) (by omega), elem_bytes, sizeOf_u8]
  simp [Result.andThen, sliced, add_zero']
theorem run_headAt (W : World) (a : Option Addr) (len cap m : Nat) (h : m ≤ cap) :
    (Instr.sliceAt 23 (.slice a len cap) none (some (.int .i64 (m : Int))) none).run Tryd.prog W = .ok (.slice a m cap) W := by
  rw [run_sliceAt_slice W _ _ _ _ _ und_bytes]
  exact run_head W a len cap m h
/-- p[l:m] -/
theorem run_midAt (W : World) (a : Option Addr) (len cap l m : Nat) (h0 : l ≤ m) (h : m ≤ cap) :
    (Instr.sliceAt 23 (.slice a len cap) (some (.int .i64 (l : Int))) (some (.int .i64 (m : Int))) none).run Tryd.prog W = .ok (.slice (sla a cap l) (m - l) (cap - l)) W := by
  rw [run_sliceAt_slice W _ _ _ _ _ und_bytes, run_slice_lh W _ a len cap und_bytes .i64 .i64 (l : Int) (m : Int) (by omega) (by omega) (by omega), elem_bytes, sizeOf_u8]
  simp [Result.andThen, sliced, sla]
theorem sla_none (a : Option Addr) (cap m : Nat) (h : sla a cap m = none) : a = none := by
  unfold sla at h
  split at h
  · exact h
  · cases a <;> simp_all
theorem Rd.cut {w : World} {a : Option Addr} {len : Nat} {zs : List Nat} (h : Rd w a len zs) (cap m : Nat) (hm : m ≤ len) (hc : len ≤ cap) : Rd w (sla a cap m) (len - m) (zs.drop m) := by
  by_cases h0 : len - m = 0
  · exact ⟨by rw [List.length_drop, h.1], fun z hz => h.2.1 z (List.mem_of_mem_drop hz), .inl h0⟩
  · obtain ⟨h1, h2, h3⟩ := h
    rcases h3 with h3 | ⟨b, off, rfl, hb, hcell⟩
    · omega
    · have e : sla (some ⟨b, off, none⟩) cap m = some ⟨b, off + m, none⟩ := by
        unfold sla
        rw [if_neg (by omega)]
        simp [Addr.add]
      rw [e]
      exact Rd.drop ⟨h1, h2, .inr ⟨b, off, rfl, hb, hcell⟩⟩ m
theorem sla_blk (a : Option Addr) (cap m : Nat) : blkOf (sla a cap m) = blkOf a := by
  unfold sla
  split
  · rfl
  · cases a with
    | none => rfl
    | some a => obtain ⟨b, o, s⟩ := a; cases s <;> simp [blkOf, Addr.add] <;> split <;> rfl
theorem len_block : Tryd.prog.arrayLen 98 = 64 := by kernel_rfl
theorem elem_block : Tryd.prog.elem 98 = 5 := by kernel_rfl
theorem und_block : Tryd.prog.underlying 98 = some (.array (Tryd.prog.arrayLen 98) (Tryd.prog.elem 98)) := by rw [elem_block, len_block]; exact Tryd.underlying98
theorem len_dig : Tryd.prog.arrayLen 27 = 32 := by kernel_rfl
theorem elem_dig : Tryd.prog.elem 27 = 5 := by kernel_rfl
theorem und_dig : Tryd.prog.underlying 27 = some (.array (Tryd.prog.arrayLen 27) (Tryd.prog.elem 27)) := by rw [elem_dig, len_dig]; exact Tryd.underlying27
/-- block[k:] -/
theorem run_blockFrom (W : World) (g o k : Nat) (h : k < 64) :
    (Instr.sliceAt 98 (.pointer (some ⟨g, o, none⟩)) (some (.int .i64 (k : Int))) none none).run Tryd.prog W = .ok (.slice (some ⟨g, o + k, none⟩) (64 - k) (64 - k)) W := by
  rw [run_sliceAt_array_l W _ _ und_block .i64 (k : Int) (by omega) (by rw [len_block]; omega), elem_block, sizeOf_u8, len_block]
  have h64 : ¬ 64 = k := by omega
  by_cases h0 : k = 0
  · subst h0
    simp [Result.andThen, slicedAt, Addr.add]
  · simp [Result.andThen, slicedAt, Addr.add, h64, h0]
/-- block[:k] -/
theorem run_blockTo (W : World) (g o k : Nat) (h : k ≤ 64) :
    (Instr.sliceAt 98 (.pointer (some ⟨g, o, none⟩)) none (some (.int .i64 (k : Int))) none).run Tryd.prog W = .ok (.slice (some ⟨g, o, none⟩) k 64) W := by
  rw [run_sliceAt_array_h W _ _ und_block .i64 (k : Int) (by omega) (by rw [len_block]; omega), elem_block, sizeOf_u8, len_block]
  simp [Result.andThen, slicedAt, Addr.add]
theorem run_blockAll (W : World) (g o : Nat) :
    (Instr.sliceAt 98 (.pointer (some ⟨g, o, none⟩)) none none none).run Tryd.prog W = .ok (.slice (some ⟨g, o, none⟩) 64 64) W := by
  rw [run_sliceAt_array_all W _ _ und_block, elem_block, sizeOf_u8, len_block]
  simp [Result.andThen, slicedAt, Addr.add]
theorem run_digAll (W : World) (g o : Nat) :
    (Instr.sliceAt 27 (.pointer (some ⟨g, o, none⟩)) none none none).run Tryd.prog W = .ok (.slice (some ⟨g, o, none⟩) 32 32) W := by
  rw [run_sliceAt_array_all W _ _ und_dig, elem_dig, sizeOf_u8, len_dig]
  simp [Result.andThen, slicedAt, Addr.add]
end Go.Proofs.YthnfbdmkdpokcaaDoor
