/- cert: Check of the program and of the document. -/
import Derived.Test.YtbmdoncdgopoaaaGreatDoorPk15
import Derived.BigQuiet
import Derived.Deep.QuietTactic
namespace Go.Proofs.YtbmdoncdgopoaaaGreatDoor
open Go.RowKit
set_option linter.unusedVariables false
set_option maxRecDepth 100000
set_option linter.unusedSimpArgs false

/-- A problem. -/
structure Prb where
  rows : List (List Int)
  rel : List Int
  b : List Int
  c : List Int
def byd (n : Int) : Bool := decide (1000000000 < n) || decide (n < -1000000000)
def bey (L : List Int) : Bool := L.any byd
def shp (P : Prb) : Bool := decide (P.rel.length = P.rows.length) && decide (P.b.length = P.rows.length) && P.rows.all (fun r => decide (r.length = P.c.length))
def chk (P : Prb) : Int :=
  if shp P = false then 120
  else if 64 < P.rows.length ∨ 64 < P.c.length then 82
  else if bey P.b = true ∨ bey P.c = true ∨ P.rows.any bey = true then 82
  else 0
/-- A slice of slices of numbers. -/
def IntRows (w : World) (v : Value) (M : List (List Int)) : Prop :=
  ∃ vs : List Value, Row1 w v vs ∧ vs.length = M.length ∧ ∀ i (h1 : i < vs.length) (h2 : i < M.length), Ints w vs[i] M[i]
theorem IntRows.below {w w' : World} {v : Value} {M : List (List Int)} (h : IntRows w v M) (b : Below w.heap.size w w') : IntRows w' v M := by
  obtain ⟨vs, h1, h2, h3⟩ := h
  exact ⟨vs, h1.below b, h2, fun i k1 k2 => (h3 i k1 k2).below b⟩
theorem IntRows.slice {w : World} {v : Value} {M : List (List Int)} (h : IntRows w v M) : ∃ a c, v = .slice a M.length c ∧ M.length ≤ c ∧ c ≤ maxLen := by
  obtain ⟨vs, h1, h2, _⟩ := h
  rw [← h2]
  exact h1.slice
theorem IntRows.at {w : World} {v : Value} {M : List (List Int)} (h : IntRows w v M) (i : Nat) (hi : i < M.length) : ∃ b off c u, v = .slice (some ⟨b, off, none⟩) M.length c ∧ w.cell? ⟨b, off + i, none⟩ = some u ∧ Ints w u M[i] := by
  obtain ⟨vs, h1, h2, h3⟩ := h
  obtain ⟨b, off, c, e, _, _, hc⟩ := h1.at i (by omega)
  exact ⟨b, off, c, _, by rw [e, h2], hc, h3 i (by omega) hi⟩
structure IsPrb (w : World) (rv ev bv cv : Value) (P : Prb) : Prop where
  rows : IntRows w rv P.rows
  rel : Ints w ev P.rel
  b : Ints w bv P.b
  c : Ints w cv P.c
theorem IsPrb.below {w w' : World} {rv ev bv cv : Value} {P : Prb} (h : IsPrb w rv ev bv cv P) (k : Below w.heap.size w w') : IsPrb w' rv ev bv cv P :=
  ⟨h.rows.below k, h.rel.below k, h.b.below k, h.c.below k⟩
theorem bxc {w : World} {b : Nat} {C : Array Value} {t : TypeId} {fz : Nat × Nat} (h : w.heap[b]? = some (.cells C t fz)) (k : Nat) (v : Value) (hk : C[k]? = some v) : w.cell? ⟨b, k, none⟩ = some v := by
  rw [cell_of_row _ _ k _ _ _ h]; exact hk
theorem bey_at {L : List Int} {k : Nat} (hk : k < L.length) (h : byd L[k] = true) : bey L = true := List.any_eq_true.2 ⟨_, List.getElem_mem hk, h⟩
theorem bey_succ {L : List Int} {k : Nat} (hk : k < L.length) (h0 : bey (L.take k) = false) (h : byd L[k] = false) : bey (L.take (k + 1)) = false := by
  unfold bey at h0 ⊢
  rw [List.take_succ_eq_append_getElem hk, List.any_append, h0]
  simp [h]
theorem rows_at {M : List (List Int)} {k : Nat} (hk : k < M.length) (h : bey M[k] = true) : M.any bey = true := List.any_eq_true.2 ⟨_, List.getElem_mem hk, h⟩
theorem rows_succ {M : List (List Int)} {k : Nat} (hk : k < M.length) (h0 : (M.take k).any bey = false) (h : bey M[k] = false) : (M.take (k + 1)).any bey = false := by
  rw [List.take_succ_eq_append_getElem hk, List.any_append, h0]
  simp [h]
theorem all_succ {M : List (List Int)} {n k : Nat} (hk : k < M.length) (h0 : (M.take k).all (fun r => decide (r.length = n)) = true) (h : M[k].length = n) : (M.take (k + 1)).all (fun r => decide (r.length = n)) = true := by
  rw [List.take_succ_eq_append_getElem hk, List.all_append, h0]
  simp [h]
theorem all_no {M : List (List Int)} {n k : Nat} (hk : k < M.length) (h : M[k].length ≠ n) : M.all (fun r => decide (r.length = n)) = false := by
  cases hb : M.all (fun r => decide (r.length = n)) with
  | false => rfl
  | true => exact absurd (by simpa using List.all_eq_true.1 hb _ (List.getElem_mem hk)) h
end Go.Proofs.YtbmdoncdgopoaaaGreatDoor
