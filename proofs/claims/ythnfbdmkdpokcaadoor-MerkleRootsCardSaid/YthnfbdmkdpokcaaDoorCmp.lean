/-
  The order of sums: bytes.Compare, digest.Compare, the document's Below; whether two sums are one.
-/
import Derived.Test.YthnfbdmkdpokcaaDoorDsm
import Derived.Lib.Bytealg
import Derived.Lib.BytesEntry
import Derived.Stop.BytesEq
namespace Go.Proofs.YthnfbdmkdpokcaaDoor
open Go.RowKit
set_option linter.unusedVariables false

/-- the order of two lists of bytes -/
def lexc : List Nat → List Nat → Int
  | [], [] => 0
  | [], _ :: _ => -1
  | _ :: _, [] => 1
  | a :: l, b :: m => if a < b then -1 else if b < a then 1 else lexc l m
theorem u8_lt (a b : Nat) (ha : a < 256) (hb : b < 256) : (UInt8.ofNat a < UInt8.ofNat b) ↔ a < b := by
  rw [UInt8.lt_iff_toNat_lt]
  simp [Nat.mod_eq_of_lt ha, Nat.mod_eq_of_lt hb]
theorem lexc_u8 : ∀ (a b : List Nat), (∀ z ∈ a, z < 256) → (∀ z ∈ b, z < 256) → Lib.compareBytes (a.map UInt8.ofNat) (b.map UInt8.ofNat) = lexc a b
  | [], [], _, _ => rfl
  | [], _ :: _, _, _ => rfl
  | _ :: _, [], _, _ => rfl
  | x :: a, y :: b, ha, hb => by
    simp only [List.map_cons, Lib.compareBytes, lexc]
    rw [lexc_u8 a b (fun z hz => ha z (List.mem_cons_of_mem _ hz)) (fun z hz => hb z (List.mem_cons_of_mem _ hz))]
    have h1 := u8_lt x y (ha x List.mem_cons_self) (hb y List.mem_cons_self)
    have h2 := u8_lt y x (hb y List.mem_cons_self) (ha x List.mem_cons_self)
    simp only [h1, h2]
theorem lexc_self : ∀ a : List Nat, lexc a a = 0
  | [] => rfl
  | x :: a => by simp [lexc, lexc_self a]
theorem lexc_anti : ∀ a b : List Nat, lexc b a = - lexc a b
  | [], [] => rfl
  | [], _ :: _ => rfl
  | _ :: _, [] => rfl
  | x :: a, y :: b => by
    simp only [lexc]
    rw [lexc_anti a b]
    split <;> split <;> omega
theorem lexc_val : ∀ a b : List Nat, lexc a b = -1 ∨ lexc a b = 0 ∨ lexc a b = 1
  | [], [] => by simp [lexc]
  | [], _ :: _ => by simp [lexc]
  | _ :: _, [] => by simp [lexc]
  | x :: a, y :: b => by
    have := lexc_val a b
    simp only [lexc]
    split
    · simp
    · split
      · simp
      · exact this
theorem lexc_zero : ∀ a b : List Nat, lexc a b = 0 ↔ a = b
  | [], [] => by simp [lexc]
  | [], _ :: _ => by simp [lexc]
  | _ :: _, [] => by simp [lexc]
  | x :: a, y :: b => by
    have ih := lexc_zero a b
    simp only [lexc, List.cons.injEq]
    split
    · simp; omega
    · split
      · simp; omega
      · rw [ih]; constructor
        · intro h; exact ⟨by omega, h⟩
        · exact fun h => h.2
theorem lexc_trans : ∀ a b c : List Nat, lexc a b ≤ 0 → lexc b c ≤ 0 → lexc a c ≤ 0
  | [], [], c, h1, h2 => h2
  | [], _ :: _, [], _, _ => by simp [lexc]
  | [], _ :: _, _ :: _, _, _ => by simp [lexc]
  | _ :: _, [], _, h1, _ => by simp [lexc] at h1
  | _ :: _, _ :: _, [], _, h2 => by simp [lexc] at h2
  | x :: a, y :: b, z :: c, h1, h2 => by
    have ih := lexc_trans a b c
    simp only [lexc] at h1 h2 ⊢
    by_cases hxy : x < y
    · by_cases hyz : y < z
      · rw [if_pos (by omega)]; omega
      · rw [if_neg hyz] at h2
        by_cases hzy : z < y
        · rw [if_pos hzy] at h2; omega
        · rw [if_pos (by omega)]; omega
    · rw [if_neg hxy] at h1
      by_cases hyx : y < x
      · rw [if_pos hyx] at h1; omega
      · rw [if_neg hyx] at h1
        obtain rfl : x = y := by omega
        by_cases hyz : x < z
        · rw [if_pos hyz]; omega
        · rw [if_neg hyz] at h2 ⊢
          by_cases hzy : z < x
          · rw [if_pos hzy] at h2; omega
          · rw [if_neg hzy] at h2 ⊢
            exact ih h1 h2
theorem lexc_at : ∀ (a b : List Nat) (k : Nat), k < a.length → k < b.length → a.take k = b.take k → lexc a b = if a.getD k 0 < b.getD k 0 then -1 else if b.getD k 0 < a.getD k 0 then 1 else lexc (a.drop (k + 1)) (b.drop (k + 1))
  | [], _, _, h, _, _ => by simp at h
  | _ :: _, [], _, _, h, _ => by simp at h
  | x :: a, y :: b, 0, _, _, _ => by simp [lexc]
  | x :: a, y :: b, k + 1, h1, h2, h => by
    simp only [List.take_succ_cons, List.cons.injEq] at h
    obtain ⟨rfl, h⟩ := h
    have ih := lexc_at a b k (by simpa using h1) (by simpa using h2) h
    simp only [lexc, Nat.lt_irrefl, if_false, List.getD_cons_succ, List.drop_succ_cons]
    exact ih

theorem load_bytes {w : World} {a : Option Addr} {len cap : Nat} {zs : List Nat} (h : Rd w a len zs) : (Extern.Bytes.bytesOf (.slice a len cap)).run Tryd.prog w = .ok (str zs) w := by
  obtain ⟨hl, hz, hc⟩ := h
  cases a with
  | none =>
    have h0 : len = 0 := by
      rcases hc with h0 | ⟨b, off, hb, _⟩
      · exact h0
      · cases hb
    subst h0
    obtain rfl : zs = [] := List.eq_nil_of_length_eq_zero hl
    rfl
  | some ad =>
    have hx := Lib.run_loadBytesX (P := Tryd.prog) w (zs.map fun z : Nat => (z : Int)) ad .empty (fun j x hj => by
      have hjl : j < zs.length := by
        have := (List.getElem?_eq_some_iff.1 hj).1
        simpa using this
      rcases hc with h0 | ⟨b, off, hb, _, hcell⟩
      · omega
      · cases hb
        have hcj := hcell j (by omega)
        rw [Addr.add_mid, hcj]
        simp [hjl] at hj
        rw [← hj, getD_at zs j hjl])
    rw [List.length_map, hl] at hx
    show (Extern.Bytes.loadBytes ad len .empty).run Tryd.prog w = _
    rw [hx]
    congr 1
    apply ByteArray.ext
    simp [str, Lib.bytesOf, ByteArray.empty, ByteArray.emptyWithCapacity, - ByteArray.emptyWithCapacity_eq_empty]
    show [] ++ List.map _ zs = _
    rw [List.nil_append]
    apply List.map_congr_left
    intro z _
    simp
theorem run_cmp {w : World} {a b : Option Addr} {la ca lb cb : Nat} {xs ys : List Nat} (ha : Rd w a la xs) (hb : Rd w b lb ys) :
    (Extern.BytealgCompare.compare #[.slice a la ca, .slice b lb cb]).run Tryd.prog w = .ok (.int .i64 (lexc xs ys)) w := by
  change Sem.run Tryd.prog (do pure (goInt (Extern.BytealgCompare.cmp (← Extern.Bytes.bytesOf (.slice a la ca)) (← Extern.Bytes.bytesOf (.slice b lb cb))))) w = _
  simp only [Sem.run_bind, load_bytes ha, load_bytes hb, Sem.run_pure, Result.andThen]
  rw [Lib.cmp_eq]
  have : Lib.compareBytes (str xs).data.toList (str ys).data.toList = lexc xs ys := lexc_u8 xs ys ha.2.1 hb.2.1
  rw [this]
  rfl
theorem eq_cells (zs : List Nat) (h : ∀ z ∈ zs, z < 256) : cellsOf zs = (zs.map UInt8.ofNat).map Extern.Stop.cell := by
  simp only [cellsOf, List.map_map]
  apply List.map_congr_left
  intro z hz
  have := h z hz
  simp [Extern.Stop.cell, Nat.mod_eq_of_lt this]
theorem map_u8_inj {a b : List Nat} (ha : ∀ z ∈ a, z < 256) (hb : ∀ z ∈ b, z < 256) : (a.map UInt8.ofNat == b.map UInt8.ofNat) = decide (a = b) := by
  rw [Bool.eq_iff_iff]
  simp only [beq_iff_eq, decide_eq_true_eq]
  constructor
  · intro h
    have := congrArg (List.map UInt8.toNat) h
    simp only [List.map_map] at this
    rw [List.map_congr_left (g := id) (fun z hz => by simp [Nat.mod_eq_of_lt (ha z hz)]), List.map_congr_left (l := b) (g := id) (fun z hz => by simp [Nat.mod_eq_of_lt (hb z hz)])] at this
    simpa using this
  · rintro rfl; rfl
theorem eq_dig (t n : Nat) (hu : Tryd.prog.underlying t = some (.array n 5)) (W : World) (a b : List Nat) (la : a.length = n) (lb : b.length = n) (ha : ∀ z ∈ a, z < 256) (hb : ∀ z ∈ b, z < 256) :
    (Op.equalIn 10000 t (.agg (cellsOf a).toArray) (.agg (cellsOf b).toArray)).run Tryd.prog W = .ok (decide (a = b)) W := by
  rw [eq_cells a ha, eq_cells b hb, ← map_u8_inj ha hb]
  exact run_equalIn_bytes W 9998 t 5 n hu Tryd.underlying5 (fun w => sizeOf_u8 w) _ _ (by simp [la]) (by simp [lb])
end Go.Proofs.YthnfbdmkdpokcaaDoor
