/-
  The walk over the state's Sum. The walks over digest.Sum and Text. The walk over the state's Save; a nil state's Write, Sum and Save. The order of sums: bytes.Compare, digest.Compare, the document's Below; whether two sums are one. The walk over 'awake' of layer 2: the answers that the document fixes. The walk over DigestOrders. The walk over DigestNil. What the arguments of a law of this seat give its walk: sums that came in; the table of the rounds' constants.
-/
import Derived.Test.YtpppffgchgcghaaPkb
import Derived.Test.YtpppffgchgcghaaPka
import Derived.Lib.Bytealg
import Derived.Lib.BytesEntry
import Derived.Stop.BytesEq
import Derived.Lib.SlBytesConst
import Derived.Deep.DeepHandedRow
import Derived.Lib.LaidTab
import Derived.LaidMore
namespace Go.Proofs.Ytpppffgchgcghaa
open Go.RowKit
set_option linter.unusedVariables false

def DigRet (d : List Nat) (w : World) (e : Ending) (w' : World) : Prop := e = .returned (.agg (cellsOf d).toArray) ∧ Below w.heap.size w w'
theorem gen_code {P : Program} {c : Code} {Q : Exit → Act → World → Prop} {a : Act} {W : World} {F : World → Prop} (h : F W) (k : ∀ w, F w → c.wp P Q a w) : c.wp P Q a W := k W h
theorem heap_new2 (w : World) (o1 o2 : Obj) : ((w.alloc o1).alloc o2).heap[w.heap.size]? = some o1 ∧ ((w.alloc o1).alloc o2).heap[w.heap.size + 1]? = some o2 := by
  refine ⟨?_, ?_⟩
  · rw [Below.heap_alloc _ _ _ (by simp)]; exact heap_new w o1
  · have := heap_new (w.alloc o1) o2
    simpa using this
theorem zs64_mem : ∀ z ∈ zs64, z < 256 := by decide
theorem set_mem (L : List Nat) (r x : Nat) (h : ∀ z ∈ L, z < 256) (hx : x < 256) : ∀ z ∈ L.set r x, z < 256 := by
  intro z hz
  rcases List.mem_or_eq_of_mem_set hz with h1 | rfl
  · exact h z h1
  · exact hx
theorem splice_whole (a b : List Nat) (h : a.length = b.length) : splice a 0 b = b := by
  unfold splice
  rw [List.take_zero, List.nil_append, List.drop_eq_nil_of_le (by omega), List.append_nil]
theorem bytesOf_byte (hs : List Nat) : ∀ z ∈ Sha.bytesOf hs, z < 256 := by
  intro z hz
  simp only [Sha.bytesOf, List.mem_flatMap] at hz
  obtain ⟨x, _, hx⟩ := hz
  exact Numm.put_byte _ _ z hx
theorem Wrow.range {w : World} {g : Nat} {t : TypeId} {ws : List Nat} (h : Wrow w g t ws) : w.rangeAt g 0 (wordsOf ws) := fun j v hv => by
  rw [Nat.zero_add, cell_of_row w g j _ t _ h]
  simpa using hv
theorem heap_newS (w : World) (ad : Addr) (v : Value) (o : Obj) : ((w.setCell ad v).alloc o).heap[w.heap.size]? = some o := by
  have := heap_new (w.setCell ad v) o
  simpa using this
end Go.Proofs.Ytpppffgchgcghaa
namespace Go.Proofs.Ytpppffgchgcghaa
open Go.RowKit
set_option linter.unusedVariables false

theorem gen_calls {P : Program} {f : FuncId} {args : Array Value} {W : World} {R : Ending → World → Prop} {F : World → Prop} (h : F W) (k : ∀ w, F w → Calls P f args w R) : Calls P f args W R := k W h
theorem sum_len (zs : List Nat) : (Sha.sum zs).length = 32 := by
  unfold Sha.sum Sha.close
  rw [bytesOf_len, (Sha.W8.run (Sha.W8.run Sha.W8.H0 _) _).1]
theorem sum_byte (zs : List Nat) : ∀ z ∈ Sha.sum zs, z < 256 := by unfold Sha.sum Sha.close; exact bytesOf_byte _
theorem str_hex (d : List Nat) : (⟨#[115, 104, 97, 50, 53, 54, 58]⟩ : ByteArray) ++ str (hex d) = str ([115, 104, 97, 50, 53, 54, 58] ++ hex d) := by
  apply ByteArray.ext
  simp [str]
end Go.Proofs.Ytpppffgchgcghaa
namespace Go.Proofs.Ytpppffgchgcghaa
open Go.RowKit
set_option linter.unusedVariables false
section
variable {ops : Array Oper} {Q : Exit → Act → World → Prop} {md : Region.Mode} {S : World → Prop}
/-- append(s, p...) as one operation -/
theorem op_cat {i : Nat} {dst : Option Tmp} {s x : Operand} {a : Act} {w : World} {K : Act → World → Prop}
    (hi : (ops[i]?.map fun o => (o.dst, o.op, o.guard)) = some (dst, Op.call { callee := .builtin .append, args := #[s, x], argTypes := #[33, 33] }, none))
    (B : Nat) (v : Value) (zs ys : List Nat) (hs : a.eval s = v) (hown : Own w B v zs) (hB : B ≤ w.heap.size) (ad : Addr) (len cap : Nat) (hx : a.eval x = .slice (some ad) len cap) (hrd : Rd w (some ad) len ys)
    (hlen : zs.length + ys.length ≤ 140737488355328) (h : ∀ v' w', Own w' B v' (zs ++ ys) → Below B w w' → K (a.put dst v') w') : wpOp Try.prog ops Q i K a w := by
  obtain ⟨i0, hi0, hz0, hz1, hz2⟩ := info_parts byteInfo
  obtain ⟨hl, hz, hc⟩ := hrd
  cases ho : ops[i]? with
  | none => simp [ho] at hi
  | some o =>
    simp only [ho, Option.map_some, Option.some.injEq, Prod.mk.injEq] at hi
    obtain ⟨g1, g2, g3⟩ := hi
    unfold wpOp
    simp only [ho, wanted_plain g3, if_true]
    refine .inl ?_
    refine wp_append_own w s x 33 g2 B 5 i0 (.int .u8 0) 1 1 Try.underlying33 hi0 hz0 hz1 hz2 rfl (by decide) v zs.length (cellsOf zs) hs hown ad len cap (cellsOf ys) hx (by rw [cellsOf_length, hl, Nat.mul_one]) ?_ (cellsOf_one _) (by unfold maxLen; omega) (by omega) hB ?_
    · intro j u hj
      have hjl : j < ys.length := by
        have := (List.getElem?_eq_some_iff.1 hj).1
        rwa [cellsOf_length] at this
      rw [cellsOf_get ys j hjl] at hj
      cases hj
      rcases hc with h0 | ⟨b, off, hb, _, hcell⟩
      · omega
      · cases hb
        rw [Addr.add_mid]
        exact hcell j (by omega)
    · intro v' w' h1 h2 _
      rw [g1]
      refine h v' w' ?_ ?_
      · unfold Own
        rw [List.length_append, cellsOf_append, hl]
        exact h1
      · exact (Below.refl B w).grown h2 hB fun k hk => (hown.lt k hk).1
theorem anyH_cat (i : Nat) {dst : Option Tmp} {s x : Operand} {fuel : Nat} {listed : Array Bool} {a : Act} {w : World}
    (h0 : Region.ready md ops listed = [i])
    (hi : (ops[i]?.map fun o => (o.dst, o.op, o.guard)) = some (dst, Op.call { callee := .builtin .append, args := #[s, x], argTypes := #[33, 33] }, none))
    (B : Nat) (v : Value) (zs ys : List Nat) (hs : a.eval s = v) (hown : Own w B v zs) (hB : B ≤ w.heap.size) (ad : Addr) (len cap : Nat) (hx : a.eval x = .slice (some ad) len cap) (hrd : Rd w (some ad) len ys)
    (hlen : zs.length + ys.length ≤ 140737488355328) (h : ∀ v' w', Own w' B v' (zs ++ ys) → Below B w w' → S w' ∧ (S w' → wpAnyH Try.prog md ops Q S fuel (listed.setIfInBounds i true) (a.put dst v') w')) :
    wpAnyH Try.prog md ops Q S (fuel + 1) listed a w := by
  refine wpAnyH_all h0 (by simp) ?_
  intro k hk
  simp only [List.mem_cons, List.not_mem_nil, or_false] at hk
  subst hk
  refine op_cat hi B v zs ys hs hown hB ad len cap hx hrd hlen fun v' w' h1 h2 => ?_
  obtain ⟨h3, h4⟩ := h v' w' h1 h2
  exact ⟨h3, h4 h3⟩
end
/-- the bytes of a state -/
def saved (hs tail : List Nat) (n : Nat) : List Nat := (Sha.bytesOf hs ++ Numm.put n 8) ++ tail
end Go.Proofs.Ytpppffgchgcghaa
namespace Go.Proofs.Ytpppffgchgcghaa
open Go.RowKit
set_option linter.unusedVariables false

/-- the order of two lists of bytes -/
def lexc : List Nat → List Nat → Int
  | [], [] => 0
  | [], _ :: _ => -1
  | _ :: _, [] => 1
  | a :: l, b :: m => if a < b then -1 else if b < a then 1 else lexc l m
theorem u8_lt (a b : Nat) (ha : a < 256) (hb : b < 256) : (UInt8.ofNat a < UInt8.ofNat b) ↔ a < b := by
  rw [UInt8.lt_iff_toNat_lt]
  simp [Nat.mod_eq_of_lt ha, Nat.mod_eq_of_lt hb]
theorem lexc_u8 : ∀ (a b : List Nat), (∀ z ∈ a, z < 256) → (∀ z ∈ b, z < 256) → Lib.compareBytes (a.map UInt8.ofNat) (b.map UInt8.ofNat) = lexc a b
  | [], [], _, _ => rfl
  | [], _ :: _, _, _ => rfl
  | _ :: _, [], _, _ => rfl
  | x :: a, y :: b, ha, hb => by
    simp only [List.map_cons, Lib.compareBytes, lexc]
    rw [lexc_u8 a b (fun z hz => ha z (List.mem_cons_of_mem _ hz)) (fun z hz => hb z (List.mem_cons_of_mem _ hz))]
    have h1 := u8_lt x y (ha x List.mem_cons_self) (hb y List.mem_cons_self)
    have h2 := u8_lt y x (hb y List.mem_cons_self) (ha x List.mem_cons_self)
    simp only [h1, h2]
theorem lexc_self : ∀ a : List Nat, lexc a a = 0
  | [] => rfl
  | x :: a => by simp [lexc, lexc_self a]
theorem lexc_anti : ∀ a b : List Nat, lexc b a = - lexc a b
  | [], [] => rfl
  | [], _ :: _ => rfl
  | _ :: _, [] => rfl
  | x :: a, y :: b => by
    simp only [lexc]
    rw [lexc_anti a b]
    split <;> split <;> omega
theorem lexc_val : ∀ a b : List Nat, lexc a b = -1 ∨ lexc a b = 0 ∨ lexc a b = 1
  | [], [] => by simp [lexc]
  | [], _ :: _ => by simp [lexc]
  | _ :: _, [] => by simp [lexc]
  | x :: a, y :: b => by
    have := lexc_val a b
    simp only [lexc]
    split
    · simp
    · split
      · simp
      · exact this
theorem lexc_zero : ∀ a b : List Nat, lexc a b = 0 ↔ a = b
  | [], [] => by simp [lexc]
  | [], _ :: _ => by simp [lexc]
  | _ :: _, [] => by simp [lexc]
  | x :: a, y :: b => by
    have ih := lexc_zero a b
    simp only [lexc, List.cons.injEq]
    split
    · simp; omega
    · split
      · simp; omega
      · rw [ih]; constructor
        · intro h; exact ⟨by omega, h⟩
        · exact fun h => h.2
theorem lexc_trans : ∀ a b c : List Nat, lexc a b ≤ 0 → lexc b c ≤ 0 → lexc a c ≤ 0
  | [], [], c, h1, h2 => h2
  | [], _ :: _, [], _, _ => by simp [lexc]
  | [], _ :: _, _ :: _, _, _ => by simp [lexc]
  | _ :: _, [], _, h1, _ => by simp [lexc] at h1
  | _ :: _, _ :: _, [], _, h2 => by simp [lexc] at h2
  | x :: a, y :: b, z :: c, h1, h2 => by
    have ih := lexc_trans a b c
    simp only [lexc] at h1 h2 ⊢
    by_cases hxy : x < y
    · by_cases hyz : y < z
      · rw [if_pos (by omega)]; omega
      · rw [if_neg hyz] at h2
        by_cases hzy : z < y
        · rw [if_pos hzy] at h2; omega
        · rw [if_pos (by omega)]; omega
    · rw [if_neg hxy] at h1
      by_cases hyx : y < x
      · rw [if_pos hyx] at h1; omega
      · rw [if_neg hyx] at h1
        obtain rfl : x = y := by omega
        by_cases hyz : x < z
        · rw [if_pos hyz]; omega
        · rw [if_neg hyz] at h2 ⊢
          by_cases hzy : z < x
          · rw [if_pos hzy] at h2; omega
          · rw [if_neg hzy] at h2 ⊢
            exact ih h1 h2
theorem lexc_at : ∀ (a b : List Nat) (k : Nat), k < a.length → k < b.length → a.take k = b.take k → lexc a b = if a.getD k 0 < b.getD k 0 then -1 else if b.getD k 0 < a.getD k 0 then 1 else lexc (a.drop (k + 1)) (b.drop (k + 1))
  | [], _, _, h, _, _ => by simp at h
  | _ :: _, [], _, _, h, _ => by simp at h
  | x :: a, y :: b, 0, _, _, _ => by simp [lexc]
  | x :: a, y :: b, k + 1, h1, h2, h => by
    simp only [List.take_succ_cons, List.cons.injEq] at h
    obtain ⟨rfl, h⟩ := h
    have ih := lexc_at a b k (by simpa using h1) (by simpa using h2) h
    simp only [lexc, Nat.lt_irrefl, if_false, List.getD_cons_succ, List.drop_succ_cons]
    exact ih

theorem load_bytes {w : World} {a : Option Addr} {len cap : Nat} {zs : List Nat} (h : Rd w a len zs) : (Extern.Bytes.bytesOf (.slice a len cap)).run Try.prog w = .ok (str zs) w := by
  obtain ⟨hl, hz, hc⟩ := h
  cases a with
  | none =>
    have h0 : len = 0 := by
      rcases hc with h0 | ⟨b, off, hb, _⟩
      · exact h0
      · cases hb
    subst h0
    obtain rfl : zs = [] := List.eq_nil_of_length_eq_zero hl
    rfl
  | some ad =>
    have hx := Lib.run_loadBytesX (P := Try.prog) w (zs.map fun z : Nat => (z : Int)) ad .empty (fun j x hj => by
      have hjl : j < zs.length := by
        have := (List.getElem?_eq_some_iff.1 hj).1
        simpa using this
      rcases hc with h0 | ⟨b, off, hb, _, hcell⟩
      · omega
      · cases hb
        have hcj := hcell j (by omega)
        rw [Addr.add_mid, hcj]
        simp [hjl] at hj
        rw [← hj, getD_at zs j hjl])
    rw [List.length_map, hl] at hx
    show (Extern.Bytes.loadBytes ad len .empty).run Try.prog w = _
    rw [hx]
    congr 1
    apply ByteArray.ext
    simp [str, Lib.bytesOf, ByteArray.empty, ByteArray.emptyWithCapacity, - ByteArray.emptyWithCapacity_eq_empty]
    show [] ++ List.map _ zs = _
    rw [List.nil_append]
    apply List.map_congr_left
    intro z _
    simp
theorem run_cmp {w : World} {a b : Option Addr} {la ca lb cb : Nat} {xs ys : List Nat} (ha : Rd w a la xs) (hb : Rd w b lb ys) :
    (Extern.BytealgCompare.compare #[.slice a la ca, .slice b lb cb]).run Try.prog w = .ok (.int .i64 (lexc xs ys)) w := by
  change Sem.run Try.prog (do pure (goInt (Extern.BytealgCompare.cmp (← Extern.Bytes.bytesOf (.slice a la ca)) (← Extern.Bytes.bytesOf (.slice b lb cb))))) w = _
  simp only [Sem.run_bind, load_bytes ha, load_bytes hb, Sem.run_pure, Result.andThen]
  rw [Lib.cmp_eq]
  have : Lib.compareBytes (str xs).data.toList (str ys).data.toList = lexc xs ys := lexc_u8 xs ys ha.2.1 hb.2.1
  rw [this]
  rfl
set_option maxRecDepth 100000 in
theorem bcmp_c (a b : Option Addr) (la ca lb cb : Nat) (xs ys : List Nat) (w : World) (ha : Rd w a la xs) (hb : Rd w b lb ys) :
    Calls Try.prog 45 #[.slice a la ca, .slice b lb cb] w fun e w' => e = .returned (.int .i64 (lexc xs ys)) ∧ w = w' := by
  have H := Lib.hid (run_cmp (ca := ca) (cb := cb) ha hb)
  clear ha hb
  go_enter Try.func45, Try.ntmps45
  go_wp2
  rw [run_callFunc_extern Try.func50 (by kernel_rfl) (by kernel_rfl) (by kernel_rfl) (e := Extern.BytealgCompare.compare) (by kernel_rfl), H.out]
  simp only [Result.andThen]
  rw [Oper.upon_value]
  go_wp2
  go_ret
  exact ⟨rfl, rfl⟩
set_option maxRecDepth 100000 in
theorem cmp_c (xs ys : List Nat) (w : World) (lx : xs.length = 32) (ly : ys.length = 32) (bx : ∀ z ∈ xs, z < 256) (by_ : ∀ z ∈ ys, z < 256) :
    Calls Try.prog 37 #[.agg (cellsOf xs).toArray, .agg (cellsOf ys).toArray] w fun e w' => e = .returned (.int .i64 (lexc xs ys)) ∧ Below w.heap.size w w' := by
  have HDA := fun W g => run_digAll W g 0
  go_enter Try.func37, Try.ntmps37
  go_wp2_with fail
  refine gen_code (F := fun W => Brow W w.heap.size 42 xs ∧ Brow W (w.heap.size + 1) 42 ys ∧ Below w.heap.size w W) ⟨(heap_new2 _ _ _).1, (heap_new2 _ _ _).2, ((Below.refl _ _).alloc (Nat.le_refl _) _).alloc (by simp) _⟩ ?_
  rintro wA ⟨hx, hy, hw⟩
  have hrx := hx.rd bx
  have hry := hy.rd by_
  rw [lx] at hrx
  rw [ly] at hry
  have HC := Lib.hid (bcmp_c (some ⟨w.heap.size, 0, none⟩) (some ⟨w.heap.size + 1, 0, none⟩) 32 32 32 32 xs ys wA.drew hrx.drew hry.drew)
  have HW := Lib.hid hw
  clear hx hy hw hrx hry
  refine wp_region_any (by kernel_rfl) ?_
  change wpAny _ _ _ _ _ _ _ wA.drew
  refine any_pure 0 (d := 5) (op := .slice 42 (.tmp 2) none none none) (.slice (some ⟨w.heap.size, 0, none⟩) 32 32) (by rfl) (by kernel_rfl) (by kernel_rfl) (by kernel_rfl) (fun _ _ _ h => h) (fun o ho W => by unfold execOp; simp only [ho]; simp [HDA W, Act.eval]) ?_
  simp only [Act.put, List.setIfInBounds_toArray, List.set_cons_zero, List.set_cons_succ]
  refine any_pure 1 (d := 6) (op := .slice 42 (.tmp 3) none none none) (.slice (some ⟨w.heap.size + 1, 0, none⟩) 32 32) (by rfl) (by kernel_rfl) (by kernel_rfl) (by kernel_rfl) (fun _ _ _ h => h) (fun o ho W => by unfold execOp; simp only [ho]; simp [HDA W, Act.eval]) ?_
  simp only [Act.put, List.setIfInBounds_toArray, List.set_cons_zero, List.set_cons_succ]
  refine any_call 2 (d := some 7) (f := 45) (xs := #[.tmp 5, .tmp 6]) (ts := #[33, 33]) (vs := #[.slice (some ⟨w.heap.size, 0, none⟩) 32 32, .slice (some ⟨w.heap.size + 1, 0, none⟩) 32 32]) (by kernel_rfl) (by rfl) (by go_simp) (by go_simp) HC.out ?_
  rintro e1 w1 ⟨rfl, rfl⟩
  refine ⟨_, rfl, ?_⟩
  simp only [Act.put, List.setIfInBounds_toArray, List.set_cons_zero, List.set_cons_succ]
  refine any_pure 3 (d := 4) (op := .assign (.tmp 7)) (.int .i64 (lexc xs ys)) (by rfl) (by kernel_rfl) (by kernel_rfl) (by kernel_rfl) (fun _ _ _ h => h) (fun o ho W => by unfold execOp; simp only [ho]; go_simp) ?_
  simp only [Act.put, List.setIfInBounds_toArray, List.set_cons_zero, List.set_cons_succ]
  refine wpAny_done (by kernel_rfl) ?_ _
  go_wp2
  go_ret
  exact ⟨rfl, HW.out.drew⟩
theorem eq_cells (zs : List Nat) (h : ∀ z ∈ zs, z < 256) : cellsOf zs = (zs.map UInt8.ofNat).map Extern.Stop.cell := by
  simp only [cellsOf, List.map_map]
  apply List.map_congr_left
  intro z hz
  have := h z hz
  simp [Extern.Stop.cell, Nat.mod_eq_of_lt this]
theorem map_u8_inj {a b : List Nat} (ha : ∀ z ∈ a, z < 256) (hb : ∀ z ∈ b, z < 256) : (a.map UInt8.ofNat == b.map UInt8.ofNat) = decide (a = b) := by
  rw [Bool.eq_iff_iff]
  simp only [beq_iff_eq, decide_eq_true_eq]
  constructor
  · intro h
    have := congrArg (List.map UInt8.toNat) h
    simp only [List.map_map] at this
    rw [List.map_congr_left (g := id) (fun z hz => by simp [Nat.mod_eq_of_lt (ha z hz)]), List.map_congr_left (l := b) (g := id) (fun z hz => by simp [Nat.mod_eq_of_lt (hb z hz)])] at this
    simpa using this
  · rintro rfl; rfl
theorem eq_dig (t n : Nat) (hu : Try.prog.underlying t = some (.array n 5)) (W : World) (a b : List Nat) (la : a.length = n) (lb : b.length = n) (ha : ∀ z ∈ a, z < 256) (hb : ∀ z ∈ b, z < 256) :
    (Op.equalIn 10000 t (.agg (cellsOf a).toArray) (.agg (cellsOf b).toArray)).run Try.prog W = .ok (decide (a = b)) W := by
  rw [eq_cells a ha, eq_cells b hb, ← map_u8_inj ha hb]
  exact run_equalIn_bytes W 9998 t 5 n hu Try.underlying5 (fun w => sizeOf_u8 w) _ _ (by simp [la]) (by simp [lb])
set_option maxRecDepth 100000 in
set_option maxHeartbeats 1000000 in
/-- the document's Below -/
theorem below_c (xs ys : List Nat) (w : World) (lx : xs.length = 32) (ly : ys.length = 32) (bx : ∀ z ∈ xs, z < 256) (by_ : ∀ z ∈ ys, z < 256) :
    Calls Try.prog 39 #[.agg (cellsOf xs).toArray, .agg (cellsOf ys).toArray] w fun e w' => e = .returned (.bool (decide (lexc xs ys < 0))) ∧ Below w.heap.size w w' := by
  go_enter Try.func39, Try.ntmps39
  go_wp2_with fail
  refine gen_code (F := fun W => Brow W w.heap.size 41 xs ∧ Brow W (w.heap.size + 1) 41 ys ∧ Below w.heap.size w W) ⟨(heap_new2 _ _ _).1, (heap_new2 _ _ _).2, ((Below.refl _ _).alloc (Nat.le_refl _) _).alloc (by simp) _⟩ ?_
  rintro wA ⟨hx, hy, hw⟩
  have HX := Lib.hid hx
  have HY := Lib.hid hy
  have HW := Lib.hid hw
  clear hx hy hw
  go_loopw [5] (fun i wr => ∃ k : Nat, k ≤ 32 ∧ i = .int .i64 k ∧ Hid (xs.take k = ys.take k) ∧ Hid (∃ q, wr = wA.drewN q)) (fun i _ => 32 - (intOf i).toNat)
  case atStart => exact ⟨0, by omega, rfl, Lib.hid rfl, Lib.hid ⟨0, rfl⟩⟩
  case round =>
    obtain ⟨k, hk, rfl, HE, HQ⟩ := hrel
    by_cases hk32 : k < 32
    · have HA := Lib.hid (lexc_at xs ys k (by omega) (by omega) HE.out)
      have cx0 : wr.cell? ⟨w.heap.size, k, none⟩ = some (.int .u8 ((xs.getD k 0 : Nat) : Int)) := by obtain ⟨q, rfl⟩ := HQ.out; exact HX.out.cell k (by omega)
      have cy0 : wr.cell? ⟨w.heap.size + 1, k, none⟩ = some (.int .u8 ((ys.getD k 0 : Nat) : Int)) := by obtain ⟨q, rfl⟩ := HQ.out; exact HY.out.cell k (by omega)
      have HT := Lib.hid (show xs.getD k 0 = ys.getD k 0 → xs.take (k + 1) = ys.take (k + 1) from fun h => by
        rw [take_snoc xs k (by omega), take_snoc ys k (by omega), HE.out, ← getD_at xs k (by omega), ← getD_at ys k (by omega), h])
      obtain ⟨x, hx⟩ : ∃ z, z = xs.getD k 0 := ⟨_, rfl⟩
      obtain ⟨y, hy⟩ : ∃ z, z = ys.getD k 0 := ⟨_, rfl⟩
      rw [← hx, ← hy] at HA HT
      rw [← hx] at cx0
      rw [← hy] at cy0
      have cx : ∀ q, (wr.drewN q).cell? ⟨w.heap.size, k, none⟩ = some (.int .u8 (x : Int)) := fun q => cx0
      have cy : ∀ q, (wr.drewN q).cell? ⟨w.heap.size + 1, k, none⟩ = some (.int .u8 (y : Int)) := fun q => cy0
      have q1 : (0 : Int) ≤ (k : Int) := by omega
      have q2 : (k : Int) < 32 := by omega
      clear hx hy lx ly
      by_cases hxy : x = y
      · subst hxy
        have HT1 := Lib.hid (HT.out rfl)
        clear HT
        go_wp2
        go_quiet (fail)
        go_wp2
        go_roundw
        case rel => exact ⟨k + 1, by omega, by go_num, HT1, by obtain ⟨q, rfl⟩ := HQ.out; exact Lib.hid ⟨q + nq, drewN_add _ _ _⟩⟩
        case measure => simp [intOf]; omega
      · have hne : ((x : Int) != (y : Int)) = true := by simp; omega
        go_wp2
        go_quiet (fail)
        go_wp2
        go_quiet (fail)
        go_wp2
        go_ret
        refine ⟨ret_bool ?_, ?_⟩
        · rw [HA.out]
          by_cases hlt : x < y
          · rw [if_pos hlt]; simp; omega
          · rw [if_neg hlt, if_pos (by omega)]; simp; omega
        · obtain ⟨q, rfl⟩ := HQ.out
          exact (HW.out.trans (below_drewN' _ _ _)).trans ((below_drewN' _ _ _).trans (below_drewN' _ _ _))
    · obtain rfl : k = 32 := by omega
      have he := HE.out
      rw [List.take_of_length_le (by omega), List.take_of_length_le (by omega)] at he
      subst he
      have HB : Below w.heap.size w wr := by obtain ⟨q, rfl⟩ := HQ.out; exact HW.out.trans (below_drewN' _ _ _)
      go_wp2
      go_ret
      exact ⟨ret_bool (by rw [lexc_self]; rfl), HB⟩
end Go.Proofs.Ytpppffgchgcghaa
namespace Go.Proofs.Ytpppffgchgcghaa
open Go.RowKit
set_option linter.unusedVariables false

theorem sum_abc : (Sha.sum [97, 98, 99]).getD 0 0 = 186 ∧ (Sha.sum [97, 98, 99]).getD 31 0 = 173 := by decide +kernel
theorem text_nil : str ([115, 104, 97, 50, 53, 54, 58] ++ hex (Sha.sum [])) = ⟨#[115, 104, 97, 50, 53, 54, 58, 101, 51, 98, 48, 99, 52, 52, 50, 57, 56, 102, 99, 49, 99, 49, 52, 57, 97, 102, 98, 102, 52, 99, 56, 57, 57, 54, 102, 98, 57, 50, 52, 50, 55, 97, 101, 52, 49, 101, 52, 54, 52, 57, 98, 57, 51, 52, 99, 97, 52, 57, 53, 57, 57, 49, 98, 55, 56, 53, 50, 98, 56, 53, 53]⟩ := by decide +kernel
theorem convA (w : World) (C : Array Value) (n c : Nat) : (convert 33 33 (.slice (some ⟨w.heap.size, 0, none⟩) n c)).run Try.prog (w.alloc (.cells C 5)) = .ok (.slice (some ⟨w.heap.size, 0, none⟩) n c) (w.alloc (.cells C 5 (C.size, C.size + 1))) :=
  Lib.run_convert_bytes_const (P := Try.prog) w 33 5 C n c Try.underlying33 Try.underlying5
end Go.Proofs.Ytpppffgchgcghaa
namespace Go.Proofs.Ytpppffgchgcghaa
open Go.RowKit
set_option linter.unusedVariables false

def D32 (a : List Nat) : Prop := a.length = 32 ∧ ∀ z ∈ a, z < 256
def S3 (w : World) (t : TypeId) (a b c : List Nat) (W : World) : Prop :=
  Brow W w.heap.size t a ∧ Brow W (w.heap.size + 1) t b ∧ Brow W (w.heap.size + 1 + 1) t c ∧ Below w.heap.size w W
def S3f (w : World) (t : TypeId) (a b c : List Nat) (W : World) : Prop :=
  W.rangeAt w.heap.size 0 (cellsOf a) ∧ W.rangeAt (w.heap.size + 1) 0 (cellsOf b) ∧ W.rangeAt (w.heap.size + 1 + 1) 0 (cellsOf c) ∧ S3 w t a b c W
theorem Brow.range {w : World} {g : Nat} {t : TypeId} {zs : List Nat} (h : Brow w g t zs) : w.rangeAt g 0 (cellsOf zs) := fun j v hv => by
  rw [Nat.zero_add, cell_of_row w g j _ t _ h]
  simpa using hv
theorem S3.full {w : World} {t : TypeId} {a b c : List Nat} {W : World} (h : S3 w t a b c W) : S3f w t a b c W := ⟨h.1.range, h.2.1.range, h.2.2.1.range, h⟩
theorem S3.step {w : World} {t : TypeId} {a b c : List Nat} {W W' : World} (hb : Below W.heap.size W W') (h : S3 w t a b c W) : S3 w t a b c W' :=
  ⟨h.1.below hb h.1.lt, h.2.1.below hb h.2.1.lt, h.2.2.1.below hb h.2.2.1.lt, h.2.2.2.trans (hb.mono h.2.2.2.size)⟩
theorem S3.drew {w : World} {t : TypeId} {a b c : List Nat} {W : World} (h : S3 w t a b c W) : S3 w t a b c W.drew := ⟨h.1, h.2.1, h.2.2.1, h.2.2.2.drew⟩
theorem und_a32 : Try.prog.underlying 41 = some (.array 32 5) := Try.underlying41
theorem info_a32 : (Try.prog.info? 41).map (·.size) = some 32 := by kernel_rfl
end Go.Proofs.Ytpppffgchgcghaa
namespace Go.Proofs.Ytpppffgchgcghaa
open Go.RowKit
set_option linter.unusedVariables false

theorem Only.rdo {g : Nat} {w w0 w' : World} (h : Only g w w') {a : Option Addr} {len : Nat} {zs : List Nat} (h0 : Rd w0 a len zs) (hr : Rd w a len zs) (hg : w0.heap.size ≤ g) : Rd w' a len zs := h.rd' hr (h0.blk g hg)
theorem saved_byte (hs tail : List Nat) (n : Nat) (ht : ∀ x ∈ tail, x < 256) : ∀ x ∈ saved hs tail n, x < 256 := by
  intro x hx
  simp only [saved, List.mem_append] at hx
  rcases hx with (h | h) | h
  · exact bytesOf_byte _ x h
  · exact Numm.put_byte _ _ x h
  · exact ht x h
theorem Own.row {w : World} {B gb L cap : Nat} {Y : List Nat} (h : Own w B (.slice (some ⟨gb, 0, none⟩) L cap) Y) (hl : Y.length = L) : w.ownsRow B 5 1 (.slice (some ⟨gb, 0, none⟩) L cap) L (cellsOf Y) := by
  subst hl; exact h
theorem Own.cellq {w : World} {B gb L cap : Nat} {Y : List Nat} (h : Own w B (.slice (some ⟨gb, 0, none⟩) L cap) Y) (hl : Y.length = L) (k : Nat) (hk : k < L) : w.cell? ⟨gb, k, none⟩ = some (.int .u8 ((Y.getD k 0 : Nat) : Int)) := by
  rw [(h.row hl).cellAt k (by omega)]
  exact cellsOf_get Y k (by omega)
theorem Own.setq {w : World} {B gb L cap : Nat} {Y : List Nat} (h : Own w B (.slice (some ⟨gb, 0, none⟩) L cap) Y) (hl : Y.length = L) (k x : Nat) : Own (w.setCell ⟨gb, k, none⟩ (.int .u8 (x : Int))) B (.slice (some ⟨gb, 0, none⟩) L cap) (Y.set k x) := by
  have := ((h.row hl).stored k (.int .u8 (x : Int))).1
  unfold Own
  rw [List.length_set, hl, show cellsOf (Y.set k x) = (cellsOf Y).set k (.int .u8 (x : Int)) by simp [cellsOf, List.map_set]]
  exact this
theorem u8_xor255 (y : Nat) (hy : y < 256) : bits .xor .u8 (y : Int) 255 = ((y ^^^ 255 : Nat) : Int) := u8_xor_nat y 255 hy (by omega)
theorem set_byte (L : List Nat) (k x : Nat) (h : ∀ z ∈ L, z < 256) (hx : x < 256) : ∀ z ∈ L.set k x, z < 256 := set_mem L k x h hx
end Go.Proofs.Ytpppffgchgcghaa
namespace Go.Proofs.Ytpppffgchgcghaa
open Go.ChangeShapes Go.WideShapes Go.ChangeAt Go.RowKit
set_option linter.unusedVariables false

def natOf : Value → Nat
  | .int _ n => n.toNat
  | _ => 0
/-- the datum of a sum -/
def digD {H : Type} (zs : List Nat) : DataW H := .agg (zs.map fun z : Nat => .lit (.int .u8 (z : Int)))
theorem cells_u8 : Try.prog.cellsOf 5 = 1 := by kernel_rfl
set_option maxRecDepth 100000 in
theorem open_dig {H : Type} {enc : TypeId × Value → H} {W : World} {base b0 : Nat} {sp : Nat → Bool} {held : Bool} {t : TypeId} {v : Value} {d : DataW H} {p : List MemPlace} (hu : Try.prog.underlying t = some (.array 32 5)) (hc : Try.prog.cellsOf t = 32)
    (hv : Value.okWide Try.prog W .any b0 t v) (h : DataW.Trod enc Try.prog W base sp held t v d p) : ∃ zs : List Nat, v = .agg (cellsOf zs).toArray ∧ D32 zs ∧ d = digD zs ∧ p = [] := by
  unfold Value.okWide at hv
  rw [hu] at hv
  obtain ⟨cs, rfl, _, _⟩ := hv
  obtain ⟨fuel, hf⟩ := h
  obtain ⟨xs, m, _, hx, hl, hn, hel⟩ := DataW.trod_array hu hf
  obtain ⟨L⟩ := cs
  simp only [Value.cells] at hl hel
  rw [hc] at hl
  have hat : ∀ i, i < 32 → ∃ n : Nat, n < 256 ∧ L[i]? = some (.int .u8 (n : Int)) ∧ xs[i]? = some (.lit (.int .u8 (n : Int)), []) := by
    intro i hi
    have h1 := hel i hi
    rw [cells_u8, Nat.mul_one] at h1
    have hxi : xs[i]? = some (xs[i]'(by omega)) := List.getElem?_eq_getElem _
    rw [hxi] at h1
    obtain ⟨k, e1, e2, hw⟩ := DataW.trod_int Try.underlying5 h1
    have hb : 0 ≤ k ∧ k ≤ 255 := by simpa [Lit.wf, IntKind.min, IntKind.max, IntKind.signed, IntKind.bits] using hw
    have hi2 : i < L.length := by omega
    refine ⟨k.toNat, by omega, ?_, ?_⟩
    · rw [List.getElem?_eq_getElem hi2]
      rw [List.drop_eq_getElem_cons hi2, List.take_succ_cons] at e1
      have e3 := (List.cons.inj e1).1
      rw [e3, Int.toNat_of_nonneg hb.1]
    · rw [hxi, e2, Int.toNat_of_nonneg hb.1]
  have hL : L.length = 32 := hl
  refine ⟨L.map natOf, ?_, ⟨by simp [hL], ?_⟩, ?_, ?_⟩
  · refine congrArg (fun l : List Value => Value.agg l.toArray) ?_
    apply List.ext_getElem?
    intro i
    by_cases hi : i < 32
    · obtain ⟨n, _, h1, _⟩ := hat i hi
      simp only [cellsOf, List.getElem?_map, h1, Option.map_some, natOf, Int.toNat_natCast]
    · rw [List.getElem?_eq_none (by omega), List.getElem?_eq_none (by rw [cellsOf_length, List.length_map]; omega)]
  · intro z hz
    simp only [List.mem_map] at hz
    obtain ⟨v, hv, rfl⟩ := hz
    obtain ⟨i, hi, rfl⟩ := List.getElem_of_mem hv
    obtain ⟨n, hn, h1, _⟩ := hat i (by omega)
    rw [List.getElem?_eq_getElem hi] at h1
    rw [Option.some.inj h1]
    simpa [natOf] using hn
  · have e : (xs.map (·.1)) = (L.map natOf).map fun z : Nat => (.lit (.int .u8 (z : Int)) : DataW H) := by
      apply List.ext_getElem?
      intro i
      by_cases hi : i < 32
      · obtain ⟨n, _, h1, h2⟩ := hat i hi
        simp only [List.getElem?_map, h1, h2, Option.map_some, natOf, Int.toNat_natCast]
      · rw [List.getElem?_eq_none (by simp; omega), List.getElem?_eq_none (by simp; omega)]
    rw [(Prod.mk.inj hx).1, e]
    rfl
  · rw [(Prod.mk.inj hx).2]
    apply List.eq_nil_iff_forall_not_mem.2
    intro q hq
    simp only [List.mem_flatMap] at hq
    obtain ⟨y, hy, hq⟩ := hq
    obtain ⟨i, hi, rfl⟩ := List.getElem_of_mem hy
    obtain ⟨n, _, _, h2⟩ := hat i (by omega)
    rw [List.getElem?_eq_getElem hi] at h2
    rw [Option.some.inj h2] at hq
    simp at hq

theorem cells_u32 : Try.prog.cellsOf 105 = 1 := by kernel_rfl
theorem cells_a32 : Try.prog.cellsOf 41 = 32 := by kernel_rfl
def kInts : List Int := Sha.K.map fun z : Nat => (z : Int)
theorem kInts_get : ∀ i, i < 64 → kInts.getD i 0 = ((Sha.K.getD i 0 : Nat) : Int) := by decide
end Go.Proofs.Ytpppffgchgcghaa
