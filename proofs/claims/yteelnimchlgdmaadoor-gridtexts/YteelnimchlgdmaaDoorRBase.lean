/- The document's numbers in memory; its trim. -/
import Derived.Test.YteelnimchlgdmaaDoorWalk1
import Derived.Test.YteelnimchlgdmaaDoorRMath
namespace Go.Proofs.YteelnimchlgdmaaDoor
open Go.RowKit
set_option linter.unusedVariables false
set_option maxRecDepth 100000
set_option linter.unusedSimpArgs false

def i64s (L : List Nat) : List Value := L.map fun x : Nat => Value.int .i64 (x : Int)
theorem i64s_len (L : List Nat) : (i64s L).length = L.length := by simp [i64s]
theorem i64s_set (L : List Nat) (i x : Nat) : i64s (L.set i x) = (i64s L).set i (.int .i64 (x : Int)) := by simp [i64s, List.map_set]
theorem i64s_rep (n : Nat) : i64s (List.replicate n 0) = List.replicate n (.int .i64 0) := by simp [i64s]
theorem i64s_take (L : List Nat) (k : Nat) : i64s (L.take k) = (i64s L).take k := by simp [i64s, List.map_take]
theorem i64s_at {w : World} {base g n cap : Nat} {L : List Nat} (hown : w.ownsRow base 3 1 (.slice (some ⟨g, 0, none⟩) n cap) n (i64s L)) (k : Nat) (hk : k < L.length) :
    w.cell? ⟨g, k, none⟩ = some (.int .i64 (lg L k : Int)) := by
  have hn : (i64s L).length = n * 1 := hown.1
  have h := hown.cellAt k (by rw [← hn]; simpa [i64s] using hk)
  rw [h]; simp [i64s, lg, hk]
/-- v is the document's number n in memory, of at most K digits to the base of a thousand million. -/
def RefIs (w : World) (v : Value) (n K : Nat) : Prop := ∃ sl L, v = .agg #[sl] ∧ w.ownsRow 0 3 1 sl L.length (i64s L) ∧ R.Bd L ∧ Top L ∧ R.val L = n ∧ L.length ≤ K
theorem RefIs.below {w w' : World} {v : Value} {n K : Nat} (h : RefIs w v n K) (hb : Below w.heap.size w w') : RefIs w' v n K := by
  obtain ⟨sl, L, h1, h2, r⟩ := h
  exact ⟨sl, L, h1, ownsRow_below h2 hb, r⟩
theorem RefIs.mono {w : World} {v : Value} {n K K' : Nat} (h : RefIs w v n K) (hk : K ≤ K') : RefIs w v n K' := by
  obtain ⟨sl, L, h1, h2, h3, h4, h5, h6⟩ := h
  exact ⟨sl, L, h1, h2, h3, h4, h5, by omega⟩
theorem ints_slice {w : World} {base : Nat} {v : Value} {L : List Nat} (h : w.ownsRow base 3 1 v L.length (i64s L)) : ∃ ao cap, v = .slice ao L.length cap := by
  rcases h.2 with ⟨h1, h2⟩ | ⟨g, cap, cur, hv, _⟩
  · exact ⟨none, 0, by rw [h1, h2]⟩
  · exact ⟨_, _, hv⟩
theorem RefIs.box {w : World} {v : Value} {n K : Nat} (h : RefIs w v n K) {b : Nat} {u0 : Value} {t : TypeId} (hb : w.heap[b]? = some (.cells #[u0] t (0, 0))) (hne : 3 ≠ t) (u : Value) : RefIs (w.setCell ⟨b, 0, none⟩ u) v n K := by
  obtain ⟨sl, L, h1, h2, r⟩ := h
  exact ⟨sl, L, h1, own_box h2 hb hne u, r⟩
theorem RefIs.form {w : World} {v : Value} {n K : Nat} (h : RefIs w v n K) : ∃ ao l cap, v = .agg #[.slice ao l cap] := by
  obtain ⟨sl, L, rfl, h2, _⟩ := h
  obtain ⟨ao, cap, rfl⟩ := ints_slice h2
  exact ⟨ao, _, cap, rfl⟩
end Go.Proofs.YteelnimchlgdmaaDoor
