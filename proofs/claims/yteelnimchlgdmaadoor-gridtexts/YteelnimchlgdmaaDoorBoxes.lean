/- Small facts that several laws share: worlds one behind the other; variables that were laid; what 'long' counts. -/
import Derived.Test.YteelnimchlgdmaaDoorBase
namespace Go.Proofs.YteelnimchlgdmaaDoor
open Go.RowKit
set_option linter.unusedVariables false

def sg (xs : List ByteArray) (k : Nat) : ByteArray := xs.getD k ByteArray.empty
/-- What 'long' has counted when k texts are looked at. -/
def lsum (xs : List ByteArray) (n : Nat) : Nat → Nat
  | 0 => n
  | k + 1 => lsum xs n k + min (sg xs k).size 1048576
theorem lsum_ge (xs : List ByteArray) (n k j : Nat) (h : j < k) : min (sg xs j).size 1048576 ≤ lsum xs n k := by
  induction k with
  | zero => omega
  | succ k ih =>
    simp only [lsum]
    by_cases e : j = k
    · subst e; omega
    · have := ih (by omega); omega
theorem boxed2 {w u : World} (h : Below w.heap.size w u) (A B : Obj) : Below w.heap.size w ((u.alloc A).alloc B) := below_alloc' (below_alloc' h (Nat.le_refl _) A) (Nat.le_refl _) B
theorem boxed2_first (u : World) (A B : Obj) : ((u.alloc A).alloc B).heap[u.heap.size]? = some A := box_alloc (box_new u A) B
theorem boxed2_second (u : World) (A B : Obj) : ((u.alloc A).alloc B).heap[u.heap.size + 1]? = some B := by
  have := box_new (u.alloc A) B
  simpa using this
theorem chain3 {w w1 W1 W2 W3 : World} (h0 : Below w.heap.size w w1) (h1 : Below w1.heap.size w1 W1) (h2 : Below W1.heap.size W1 W2) (h3 : Below W2.heap.size W2 W3) : Below w.heap.size w W3 := by
  have s0 := h0.size
  have s1 := h1.size
  have s2 := h2.size
  exact ((h0.trans (h1.mono s0)).trans (h2.mono (by omega))).trans (h3.mono (by omega))
theorem chain2 {w a b : World} (h : Below w.heap.size w a) (k : Below a.heap.size a b) : Below w.heap.size w b := h.trans (k.mono h.size)
theorem keep3 {W X : World} {p q r : Nat} {a b c : Value} (hp : W.cell? ⟨p, 0, none⟩ = some a) (hq : W.cell? ⟨q, 0, none⟩ = some b) (hr : W.cell? ⟨r, 0, none⟩ = some c) (h : Below W.heap.size W X) :
    X.cell? ⟨p, 0, none⟩ = some a ∧ X.cell? ⟨q, 0, none⟩ = some b ∧ X.cell? ⟨r, 0, none⟩ = some c :=
  ⟨(h.cell (World.block_lt_of_cell? W _ hp)).trans hp, (h.cell (World.block_lt_of_cell? W _ hq)).trans hq, (h.cell (World.block_lt_of_cell? W _ hr)).trans hr⟩
end Go.Proofs.YteelnimchlgdmaaDoor
