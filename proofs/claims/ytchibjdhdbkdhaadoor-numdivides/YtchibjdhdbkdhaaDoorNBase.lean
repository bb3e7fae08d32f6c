/- Whole numbers in memory: the program's and the document's. -/
import Derived.Test.YtchibjdhdbkdhaaDoorLaws
import Derived.Test.YtchibjdhdbkdhaaDoorRBase
import Derived.Test.YtchibjdhdbkdhaaDoorNTexts
namespace Go.Proofs.YtchibjdhdbkdhaaDoor
open Go.RowKit
set_option linter.unusedVariables false

/-- m, or m below 0. -/
def sgn (b : Bool) (m : Nat) : Int := if b then -(m : Int) else (m : Int)
theorem sgn_abs (b : Bool) (m : Nat) : (sgn b m).natAbs = m := by cases b <;> simp [sgn]
theorem sgn_neg (b : Bool) (m : Nat) : decide (sgn b m < 0) = (b && decide (0 < m)) := by cases b <;> simp [sgn]
theorem sgn_of (z : Int) : sgn (decide (z < 0)) z.natAbs = z := by
  unfold sgn; by_cases h : z < 0 <;> simp [h] <;> omega
theorem sgn_not (z : Int) : sgn (!decide (z < 0)) z.natAbs = -z := by
  unfold sgn; by_cases h : z < 0 <;> simp [h] <;> omega
/-- v is the whole number z in memory, of at most K limbs. -/
def NumIs (w : World) (v : Value) (z : Int) (K : Nat) : Prop := ∃ ao l c, v = .agg #[.slice ao l c, .bool (decide (z < 0))] ∧ NatIs w (.agg #[.slice ao l c]) z.natAbs K
theorem NumIs.below {w w' : World} {v : Value} {z : Int} {K : Nat} (h : NumIs w v z K) (hb : Below w.heap.size w w') : NumIs w' v z K := by
  obtain ⟨ao, l, c, h1, h2⟩ := h
  exact ⟨ao, l, c, h1, h2.below hb⟩
theorem NumIs.mono {w : World} {v : Value} {z : Int} {K K' : Nat} (h : NumIs w v z K) (hk : K ≤ K') : NumIs w v z K' := by
  obtain ⟨ao, l, c, h1, h2⟩ := h
  exact ⟨ao, l, c, h1, h2.mono hk⟩
/-- v is the document's whole number z in memory. -/
def RNumIs (w : World) (v : Value) (z : Int) (K : Nat) : Prop := ∃ ao l c, v = .agg #[.bool (decide (z < 0)), .slice ao l c] ∧ RefIs w (.agg #[.slice ao l c]) z.natAbs K
theorem RNumIs.below {w w' : World} {v : Value} {z : Int} {K : Nat} (h : RNumIs w v z K) (hb : Below w.heap.size w w') : RNumIs w' v z K := by
  obtain ⟨ao, l, c, h1, h2⟩ := h
  exact ⟨ao, l, c, h1, h2.below hb⟩
theorem RNumIs.mono {w : World} {v : Value} {z : Int} {K K' : Nat} (h : RNumIs w v z K) (hk : K ≤ K') : RNumIs w v z K' := by
  obtain ⟨ao, l, c, h1, h2⟩ := h
  exact ⟨ao, l, c, h1, h2.mono hk⟩
/-- -1, 0, 1: below, the same, above. -/
def cmpZ (a b : Int) : Int := if a < b then -1 else if b < a then 1 else 0
def signZ (a : Int) : Int := if a < 0 then -1 else if 0 < a then 1 else 0
theorem nat_zero (w : World) : NatIs w (.agg #[.slice none 0 0]) 0 0 := ⟨_, [], rfl, World.ownsRow_nil w _ _ _, by intro j; simp [lg], fun h => by simp at h, rfl, Nat.le_refl _⟩
/- A variable of two cells. -/
theorem two_cell0 {w : World} {b : Nat} {u v : Value} {t : TypeId} (h : w.heap[b]? = some (.cells #[u, v] t (0, 0))) : w.cell? ⟨b, 0, none⟩ = some u := by simp [World.cell?, h]
theorem two_cell1 {w : World} {b : Nat} {u v : Value} {t : TypeId} (h : w.heap[b]? = some (.cells #[u, v] t (0, 0))) : w.cell? ⟨b, 1, none⟩ = some v := by simp [World.cell?, h]
theorem two_free {w : World} {b k : Nat} {u v : Value} {t : TypeId} (h : w.heap[b]? = some (.cells #[u, v] t (0, 0))) : w.frozen? ⟨b, k, none⟩ = false := by simp [World.frozen?, h]
theorem two_set0 {w : World} {b : Nat} {u v x : Value} {t : TypeId} (h : w.heap[b]? = some (.cells #[u, v] t (0, 0))) : (w.setCell ⟨b, 0, none⟩ x).heap[b]? = some (.cells #[x, v] t (0, 0)) := by
  have hlt := lt_of_block h
  have h' : w.heap[b] = .cells #[u, v] t (0, 0) := by simpa [Array.getElem?_eq_getElem hlt] using h
  show (w.heap.modify b _)[b]? = _
  simp [Array.getElem_modify, hlt, h']
theorem two_set1 {w : World} {b : Nat} {u v x : Value} {t : TypeId} (h : w.heap[b]? = some (.cells #[u, v] t (0, 0))) : (w.setCell ⟨b, 1, none⟩ x).heap[b]? = some (.cells #[u, x] t (0, 0)) := by
  have hlt := lt_of_block h
  have h' : w.heap[b] = .cells #[u, v] t (0, 0) := by simpa [Array.getElem?_eq_getElem hlt] using h
  show (w.heap.modify b _)[b]? = _
  simp [Array.getElem_modify, hlt, h']
theorem two_keep0 {w : World} {b c k : Nat} {v : Value} (h : w.cell? ⟨b, k, none⟩ = some v) (hne : b ≠ c) (x y : Value) : ((w.setCell ⟨c, 0, none⟩ x).setCell ⟨c, 1, none⟩ y).cell? ⟨b, k, none⟩ = some v := by
  have e : ((w.setCell ⟨c, 0, none⟩ x).setCell ⟨c, 1, none⟩ y).heap[b]? = w.heap[b]? := (Below.heap_setCell _ _ y b hne).trans (Below.heap_setCell w _ x b hne)
  rw [← h]
  unfold World.cell?
  simp only [e]
theorem end_two {w w1 : World} {r : Nat} {u0 v0 : Value} {t : TypeId} (hb : Below w.heap.size w w1) (hr : w.heap.size ≤ r) (hy : w1.heap[r]? = some (.cells #[u0, v0] t (0, 0))) (x y : Value) :
    ((w1.setCell ⟨r, 0, none⟩ x).setCell ⟨r, 1, none⟩ y).cell? ⟨r, 0, none⟩ = some x ∧ ((w1.setCell ⟨r, 0, none⟩ x).setCell ⟨r, 1, none⟩ y).cell? ⟨r, 1, none⟩ = some y ∧ Below w.heap.size w ((w1.setCell ⟨r, 0, none⟩ x).setCell ⟨r, 1, none⟩ y) :=
  have k := two_set1 (x := y) (two_set0 (x := x) hy)
  ⟨two_cell0 k, two_cell1 k, (hb.setCell (p := ⟨r, 0, none⟩) hr x).setCell (p := ⟨r, 1, none⟩) hr y⟩
theorem NatIs.box2 {w : World} {v : Value} {n K : Nat} (h : NatIs w v n K) {b : Nat} {u0 v0 : Value} {t : TypeId} (hb : w.heap[b]? = some (.cells #[u0, v0] t (0, 0))) (hne : 73 ≠ t) (x y : Value) : NatIs ((w.setCell ⟨b, 0, none⟩ x).setCell ⟨b, 1, none⟩ y) v n K := by
  obtain ⟨sl, L, h1, h2, r⟩ := h
  have hn : (sl.ownBlock ≠ some b) := by
    rcases h2.2 with ⟨rfl, _⟩ | ⟨g, cap, cur, rfl, _, hh, _⟩
    · simp [Value.ownBlock]
    · simp only [Value.ownBlock, ne_eq, Option.some.injEq]
      intro e1
      rw [e1, hb] at hh
      simp only [Option.some.injEq, Obj.cells.injEq] at hh
      exact hne hh.2.1.symm
  exact ⟨sl, L, h1, ownsRow_setCell_other (ownsRow_setCell_other h2 hn x) hn y, r⟩
theorem RefIs.box2 {w : World} {v : Value} {n K : Nat} (h : RefIs w v n K) {b : Nat} {u0 v0 : Value} {t : TypeId} (hb : w.heap[b]? = some (.cells #[u0, v0] t (0, 0))) (hne : 3 ≠ t) (x y : Value) : RefIs ((w.setCell ⟨b, 0, none⟩ x).setCell ⟨b, 1, none⟩ y) v n K := by
  obtain ⟨sl, L, h1, h2, r⟩ := h
  have hn : (sl.ownBlock ≠ some b) := by
    rcases h2.2 with ⟨rfl, _⟩ | ⟨g, cap, cur, rfl, _, hh, _⟩
    · simp [Value.ownBlock]
    · simp only [Value.ownBlock, ne_eq, Option.some.injEq]
      intro e1
      rw [e1, hb] at hh
      simp only [Option.some.injEq, Obj.cells.injEq] at hh
      exact hne hh.2.1.symm
  exact ⟨sl, L, h1, ownsRow_setCell_other (ownsRow_setCell_other h2 hn x) hn y, r⟩
theorem kc {W X : World} {p : Addr} {v : Value} (h : Below W.heap.size W X) (hp : W.cell? p = some v) : X.cell? p = some v := (h.cell (World.block_lt_of_cell? W _ hp)).trans hp
theorem boxed3 {w u : World} (h : Below w.heap.size w u) (A B C : Obj) : Below w.heap.size w (((u.alloc A).alloc B).alloc C) := below_alloc' (boxed2 h A B) (Nat.le_refl _) C
theorem boxed3_first (u : World) (A B C : Obj) : (((u.alloc A).alloc B).alloc C).heap[u.heap.size]? = some A := box_alloc (boxed2_first u A B) C
theorem boxed3_second (u : World) (A B C : Obj) : (((u.alloc A).alloc B).alloc C).heap[u.heap.size + 1]? = some B := box_alloc (boxed2_second u A B) C
theorem boxed3_third (u : World) (A B C : Obj) : (((u.alloc A).alloc B).alloc C).heap[u.heap.size + 1 + 1]? = some C := by
  have := box_new ((u.alloc A).alloc B) C
  simpa using this
theorem NumIs.box2 {w : World} {v : Value} {z : Int} {K : Nat} (h : NumIs w v z K) {b : Nat} {u0 v0 : Value} {t : TypeId} (hb : w.heap[b]? = some (.cells #[u0, v0] t (0, 0))) (hne : 73 ≠ t) (x y : Value) : NumIs ((w.setCell ⟨b, 0, none⟩ x).setCell ⟨b, 1, none⟩ y) v z K := by
  obtain ⟨ao, l, c, h1, h2⟩ := h
  exact ⟨ao, l, c, h1, h2.box2 hb hne x y⟩
theorem RNumIs.box2 {w : World} {v : Value} {z : Int} {K : Nat} (h : RNumIs w v z K) {b : Nat} {u0 v0 : Value} {t : TypeId} (hb : w.heap[b]? = some (.cells #[u0, v0] t (0, 0))) (hne : 3 ≠ t) (x y : Value) : RNumIs ((w.setCell ⟨b, 0, none⟩ x).setCell ⟨b, 1, none⟩ y) v z K := by
  obtain ⟨ao, l, c, h1, h2⟩ := h
  exact ⟨ao, l, c, h1, h2.box2 hb hne x y⟩
end Go.Proofs.YtchibjdhdbkdhaaDoor
