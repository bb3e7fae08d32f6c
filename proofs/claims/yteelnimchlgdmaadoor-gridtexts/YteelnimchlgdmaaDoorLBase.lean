/- Slices of texts and of numbers in memory. -/
import Derived.Test.YteelnimchlgdmaaDoorLRune
import Derived.Deep.WholeRow
import Derived.Lib.OthersKept
import Derived.Lib.AppendStr
import Derived.Maps.AppendAt
namespace Go.Proofs.YteelnimchlgdmaaDoor
open Go.RowKit
set_option linter.unusedVariables false
set_option linter.unusedSimpArgs false

theorem add_off (g o j : Nat) : (⟨g, o, none⟩ : Addr).add j = ⟨g, o + j, none⟩ := by unfold Addr.add; split <;> simp_all
theorem cell_at {w : World} {b : Nat} {L : List Value} {t : TypeId} {fz : Nat × Nat} (h : w.heap[b]? = some (.cells L.toArray t fz)) (k : Nat) (v : Value) (hk : L[k]? = some v) : w.cell? ⟨b, k, none⟩ = some v := by
  rw [cell_of_row _ _ k _ _ _ h]; simpa using hk
theorem free_at {w : World} {b : Nat} {L : List Value} {t : TypeId} (h : w.heap[b]? = some (.cells L.toArray t (0, 0))) (k : Nat) : w.frozen? ⟨b, k, none⟩ = false := by simp [World.frozen?, h]
theorem set_at {w : World} {b k : Nat} {L : List Value} {v : Value} {t : TypeId} {fz : Nat × Nat} (h : w.heap[b]? = some (.cells L.toArray t fz)) : (w.setCell ⟨b, k, none⟩ v).heap[b]? = some (.cells (L.set k v).toArray t fz) := by
  have hlt := lt_of_block h
  have h' : w.heap[b] = .cells L.toArray t fz := by simpa [Array.getElem?_eq_getElem hlt] using h
  show (w.heap.modify b _)[b]? = _
  simp [Array.getElem_modify, hlt, h']
theorem own_slice {w : World} {base size : Nat} {e : TypeId} {v : Value} {n : Nat} {xs : List Value} (h : w.ownsRow base e size v n xs) : ∃ sa sc, v = .slice sa n sc := by
  rcases h.2 with ⟨rfl, rfl⟩ | ⟨g, cap, cur, rfl, _⟩
  · exact ⟨_, _, rfl⟩
  · exact ⟨_, _, rfl⟩
theorem own_below {w w' : World} {base size : Nat} {e : TypeId} {v : Value} {n : Nat} {xs : List Value} (h : w.ownsRow base e size v n xs) (k : Below w.heap.size w w') : w'.ownsRow base e size v n xs := by
  obtain ⟨h1, h2⟩ := h
  refine ⟨h1, ?_⟩
  rcases h2 with h2 | ⟨g, cap, cur, hv, hb, hh, r⟩
  · exact Or.inl h2
  · exact Or.inr ⟨g, cap, cur, hv, hb, (k.block g (lt_of_block hh)).trans hh, r⟩
theorem own_mono {w : World} {base base' size : Nat} {e : TypeId} {v : Value} {n : Nat} {xs : List Value} (h : w.ownsRow base e size v n xs) (hb : base' ≤ base) : w.ownsRow base' e size v n xs := by
  obtain ⟨h1, h2⟩ := h
  refine ⟨h1, ?_⟩
  rcases h2 with h2 | ⟨g, cap, cur, hv, hg, r⟩
  · exact Or.inl h2
  · exact Or.inr ⟨g, cap, cur, hv, by omega, r⟩
theorem below_dn {B : Nat} {w X : World} (h : Below B w X) (n : Nat) : Below B w (X.drewN n) := ⟨h.os, h.tape, h.output, h.size, h.block⟩
theorem chain2 {w a b : World} (h : Below w.heap.size w a) (k : Below a.heap.size a b) : Below w.heap.size w b := h.trans (k.mono h.size)
theorem info_u8 : (Tryd.prog.info? 5).map (fun i => (i.zero, i.size, i.bytes)) = some (some (.int .u8 0), 1, 1) := by kernel_rfl
theorem info_i32 : (Tryd.prog.info? 21).map (fun i => (i.zero, i.size, i.bytes)) = some (some (.int .i32 0), 1, 4) := by kernel_rfl
theorem info_int : (Tryd.prog.info? 3).map (fun i => (i.zero, i.size, i.bytes)) = some (some (.int .i64 0), 1, 8) := by kernel_rfl
theorem info_string : (Tryd.prog.info? 9).map (fun i => (i.zero, i.size, i.bytes)) = some (some (.string ByteArray.empty), 1, 16) := by kernel_rfl
/-- A slice whose cells are the values of xs. -/
def Row1 (w : World) (v : Value) (xs : List Value) : Prop :=
  ∃ a c, v = .slice a xs.length c ∧ xs.length ≤ c ∧ c ≤ maxLen ∧ (xs = [] ∨ ∃ b off, a = some ⟨b, off, none⟩ ∧ ∀ i (h : i < xs.length), w.cell? ⟨b, off + i, none⟩ = some xs[i])
theorem Row1.below {w w' : World} {v : Value} {L : List Value} (h : Row1 w v L) (k : Below w.heap.size w w') : Row1 w' v L := by
  obtain ⟨a, c, h1, h2, h3, h4⟩ := h
  refine ⟨a, c, h1, h2, h3, ?_⟩
  rcases h4 with h4 | ⟨b, off, h4, h5⟩
  · exact Or.inl h4
  · exact Or.inr ⟨b, off, h4, fun i hi => (k.cell (World.block_lt_of_cell? w _ (h5 i hi))).trans (h5 i hi)⟩
theorem Row1.nil (w : World) : Row1 w (.slice none 0 0) [] := ⟨none, 0, rfl, Nat.le_refl _, Nat.zero_le _, Or.inl rfl⟩
theorem Row1.of_own {w : World} {base : Nat} {e : TypeId} {v : Value} {L : List Value} (h : w.ownsRow base e 1 v L.length L) : Row1 w v L := by
  rcases h.2 with ⟨rfl, h0⟩ | ⟨g, cap, cur, rfl, _, hh, h1, h2, _⟩
  · exact ⟨none, 0, by rw [h0], by omega, Nat.zero_le _, Or.inl (List.eq_nil_of_length_eq_zero h0)⟩
  · refine ⟨_, cap, rfl, h1, h2, Or.inr ⟨g, 0, rfl, fun i hi => ?_⟩⟩
    have := h.cells (g := g) rfl i L[i] (by simp [hi])
    rw [add_off] at this
    exact this
theorem Row1.of_block {w : World} {b : Nat} {t : TypeId} {fz : Nat × Nat} {L : List Value} (h : w.heap[b]? = some (.cells L.toArray t fz)) (hl : L.length ≤ maxLen) : Row1 w (.slice (some ⟨b, 0, none⟩) L.length L.length) L :=
  ⟨_, _, rfl, Nat.le_refl _, hl, Or.inr ⟨b, 0, rfl, fun i hi => by rw [Nat.zero_add]; exact cell_at h i _ (by simp [hi])⟩⟩
theorem Row1.at {w : World} {v : Value} {L : List Value} (h : Row1 w v L) (i : Nat) (hi : i < L.length) : ∃ b off c, v = .slice (some ⟨b, off, none⟩) L.length c ∧ L.length ≤ c ∧ c ≤ maxLen ∧ w.cell? ⟨b, off + i, none⟩ = some L[i] := by
  obtain ⟨a, c, h1, h2, h3, h4⟩ := h
  rcases h4 with h4 | ⟨b, off, h4, h5⟩
  · rw [h4] at hi; simp at hi
  · exact ⟨b, off, c, by rw [h1, h4], h2, h3, h5 i hi⟩
theorem Row1.slice {w : World} {v : Value} {L : List Value} (h : Row1 w v L) : ∃ a c, v = .slice a L.length c ∧ L.length ≤ c ∧ c ≤ maxLen := by
  obtain ⟨a, c, h1, h2, h3, _⟩ := h
  exact ⟨a, c, h1, h2, h3⟩
/-- A slice of texts. -/
def strV (L : List ByteArray) : List Value := L.map Value.string
theorem strV_len (L : List ByteArray) : (strV L).length = L.length := by simp [strV]
theorem strV_app (L M : List ByteArray) : strV (L ++ M) = strV L ++ strV M := by simp [strV]
theorem strV_at (L : List ByteArray) (i : Nat) (h : i < L.length) : (strV L)[i]'(by rw [strV_len]; exact h) = .string L[i] := by simp [strV]
def Strs (w : World) (v : Value) (L : List ByteArray) : Prop := Row1 w v (strV L) ∧ ∀ x ∈ L, x.size ≤ maxLen
theorem Strs.below {w w' : World} {v : Value} {L : List ByteArray} (h : Strs w v L) (k : Below w.heap.size w w') : Strs w' v L := ⟨h.1.below k, h.2⟩
theorem Strs.nil (w : World) : Strs w (.slice none 0 0) [] := ⟨Row1.nil w, by simp⟩
theorem Strs.slice {w : World} {v : Value} {L : List ByteArray} (h : Strs w v L) : ∃ a c, v = .slice a L.length c ∧ L.length ≤ c ∧ c ≤ maxLen := by
  have := h.1.slice
  rwa [strV_len] at this
theorem Strs.at {w : World} {v : Value} {L : List ByteArray} (h : Strs w v L) (i : Nat) (hi : i < L.length) : ∃ b off c, v = .slice (some ⟨b, off, none⟩) L.length c ∧ L.length ≤ c ∧ c ≤ maxLen ∧ w.cell? ⟨b, off + i, none⟩ = some (.string L[i]) ∧ L[i].size ≤ maxLen := by
  obtain ⟨b, off, c, h1, h2, h3, h4⟩ := h.1.at i (by rw [strV_len]; exact hi)
  rw [strV_at L i hi] at h4
  rw [strV_len] at h1 h2
  exact ⟨b, off, c, h1, h2, h3, h4, h.2 _ (List.getElem_mem hi)⟩
/-- A slice of numbers. -/
def intV (L : List Int) : List Value := L.map fun x => Value.int .i64 x
theorem intV_len (L : List Int) : (intV L).length = L.length := by simp [intV]
theorem intV_app (L M : List Int) : intV (L ++ M) = intV L ++ intV M := by simp [intV]
theorem intV_at (L : List Int) (i : Nat) (h : i < L.length) : (intV L)[i]'(by rw [intV_len]; exact h) = .int .i64 L[i] := by simp [intV]
def Ints (w : World) (v : Value) (L : List Int) : Prop := Row1 w v (intV L)
theorem Ints.below {w w' : World} {v : Value} {L : List Int} (h : Ints w v L) (k : Below w.heap.size w w') : Ints w' v L := Row1.below h k
theorem Ints.slice {w : World} {v : Value} {L : List Int} (h : Ints w v L) : ∃ a c, v = .slice a L.length c ∧ L.length ≤ c ∧ c ≤ maxLen := by
  have := Row1.slice h
  rwa [intV_len] at this
theorem Ints.at {w : World} {v : Value} {L : List Int} (h : Ints w v L) (i : Nat) (hi : i < L.length) : ∃ b off c, v = .slice (some ⟨b, off, none⟩) L.length c ∧ L.length ≤ c ∧ c ≤ maxLen ∧ w.cell? ⟨b, off + i, none⟩ = some (.int .i64 L[i]) := by
  obtain ⟨b, off, c, h1, h2, h3, h4⟩ := Row1.at h i (by rw [intV_len]; exact hi)
  rw [intV_at L i hi] at h4
  rw [intV_len] at h1 h2
  exact ⟨b, off, c, h1, h2, h3, h4⟩
end Go.Proofs.YteelnimchlgdmaaDoor
