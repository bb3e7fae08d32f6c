/- Base, Boxes. -/
import Derived.Test.YtcdkoadobdgbhaaGreatDoorRows
import Derived.Test.YtcdkoadobdgbhaaGreatDoorPk0
import Derived.WalkKit
import Derived.WalkSpells
import Derived.WalkLawsBesides
/- A number in memory: the slice of its limbs, and what the world owns of it. -/
namespace Go.Proofs.YtcdkoadobdgbhaaGreatDoor
open Go.RowKit

def u32s (L : List Nat) : List Value := L.map fun x : Nat => Value.int .u32 (x : Int)
theorem u32s_len (L : List Nat) : (u32s L).length = L.length := by simp [u32s]
theorem u32s_set (L : List Nat) (i x : Nat) : u32s (L.set i x) = (u32s L).set i (.int .u32 (x : Int)) := by simp [u32s, List.map_set]
theorem u32s_rep (n : Nat) : u32s (List.replicate n 0) = List.replicate n (.int .u32 0) := by simp [u32s]
theorem u32s_at {w : World} {base g n cap : Nat} {L : List Nat} (hown : w.ownsRow base 213 1 (.slice (some ⟨g, 0, none⟩) n cap) n (u32s L)) (k : Nat) (hk : k < L.length) :
    w.cell? ⟨g, k, none⟩ = some (.int .u32 (lg L k : Int)) := by
  have hn : (u32s L).length = n * 1 := hown.1
  have h := hown.cellAt k (by rw [← hn]; simpa [u32s] using hk)
  rw [h]; simp [u32s, lg, hk]

/-- The slice value v owns the limbs L. -/
def Limbs (w : World) (v : Value) (L : List Nat) : Prop := w.ownsRow 0 213 1 v L.length (u32s L)

theorem ownsRow_base0 {w : World} {base : Nat} {e : TypeId} {size : Nat} {v : Value} {n : Nat} {xs : List Value} (h : w.ownsRow base e size v n xs) : w.ownsRow 0 e size v n xs := by
  obtain ⟨h1, h2⟩ := h
  refine ⟨h1, ?_⟩
  rcases h2 with h2 | ⟨g, cap, cur, hv, _, r⟩
  · exact Or.inl h2
  · exact Or.inr ⟨g, cap, cur, hv, Nat.zero_le _, r⟩
/-- What was owned is owned behind whatever turned nothing old. -/
theorem ownsRow_below {w w' : World} {base : Nat} {e : TypeId} {size : Nat} {v : Value} {n : Nat} {xs : List Value} (h : w.ownsRow base e size v n xs) (hb : Below w.heap.size w w') : w'.ownsRow base e size v n xs := by
  obtain ⟨h1, h2⟩ := h
  refine ⟨h1, ?_⟩
  rcases h2 with h2 | ⟨g, cap, cur, hv, hg, hh, r⟩
  · exact Or.inl h2
  · exact Or.inr ⟨g, cap, cur, hv, hg, by rw [hb.block g (Array.getElem?_eq_some_iff.1 hh).1]; exact hh, r⟩
theorem ownsRow_take {w : World} {base g n cap k : Nat} {e : TypeId} {xs : List Value} (h : w.ownsRow base e 1 (.slice (some ⟨g, 0, none⟩) n cap) n xs) (hk : k ≤ n) :
    w.ownsRow base e 1 (.slice (some ⟨g, 0, none⟩) k cap) k (xs.take k) := by
  obtain ⟨h1, h2⟩ := h
  refine ⟨by simp at h1; simp; omega, ?_⟩
  rcases h2 with ⟨h2, _⟩ | ⟨g', cap', cur, hv, hg, hh, r1, r2, r3, r4⟩
  · simp at h2
  · simp only [Value.slice.injEq, Option.some.injEq, Addr.mk.injEq, and_true, true_and] at hv
    obtain ⟨rfl, rfl⟩ := hv
    refine Or.inr ⟨g, cap, cur, rfl, hg, hh, by omega, r2, r3, ?_⟩
    rw [← r4, List.take_take, show min k (n * 1) = k * 1 by omega]
theorem u32s_take (L : List Nat) (k : Nat) : u32s (L.take k) = (u32s L).take k := by simp [u32s, List.map_take]
theorem Limbs.below {w w' : World} {v : Value} {L : List Nat} (h : Limbs w v L) (hb : Below w.heap.size w w') : Limbs w' v L := ownsRow_below h hb
theorem Limbs.alloc {w : World} {v : Value} {L : List Nat} (h : Limbs w v L) (o : Obj) : Limbs (w.alloc o) v L := World.ownsRow.alloc h o
/-- The value is nil and there is no limb, or it begins at a block's head. -/
theorem Limbs.form {w : World} {v : Value} {L : List Nat} (h : Limbs w v L) : (v = .slice none 0 0 ∧ L = []) ∨ ∃ g cap, v = .slice (some ⟨g, 0, none⟩) L.length cap ∧ L.length ≤ cap ∧ cap ≤ maxLen ∧ g < w.heap.size := by
  rcases h.2 with ⟨h1, h2⟩ | ⟨g, cap, cur, hv, _, hh, r1, r2, _⟩
  · exact Or.inl ⟨h1, List.eq_nil_of_length_eq_zero h2⟩
  · exact Or.inr ⟨g, cap, hv, r1, r2, (Array.getElem?_eq_some_iff.1 hh).1⟩

theorem Limbs.slice {w : World} {v : Value} {L : List Nat} (h : Limbs w v L) : ∃ ao cap, v = .slice ao L.length cap := by
  rcases h.form with ⟨rfl, rfl⟩ | ⟨g, cap, rfl, _⟩
  · exact ⟨_, _, rfl⟩
  · exact ⟨_, _, rfl⟩
theorem hid {p : Prop} (h : p) : Hid p := h
theorem w64 (x : Int) (h0 : 0 ≤ x) (h1 : x < 18446744073709551616) : IntKind.u64.wrap x = x := by
  simp [IntKind.wrap, IntKind.bits, IntKind.signed]; omega
theorem below_alloc' {B : Nat} {W X : World} (h : Below B W X) (hB : B ≤ W.heap.size) (o : Obj) : Below B W (X.alloc o) := h.alloc (by have := h.size; omega) o
theorem Tryz.info213 : (Tryz.prog.info? 213).map (fun i => (i.zero, i.size, i.bytes)) = some (some (.int .u32 0), 1, 4) := by kernel_rfl

/-- v is the number n in memory, of at most K limbs. -/
def NatIs (w : World) (v : Value) (n K : Nat) : Prop := ∃ sl L, v = .agg #[sl] ∧ Limbs w sl L ∧ Bd L ∧ Top L ∧ val L = n ∧ L.length ≤ K
theorem NatIs.below {w w' : World} {v : Value} {n K : Nat} (h : NatIs w v n K) (hb : Below w.heap.size w w') : NatIs w' v n K := by
  obtain ⟨sl, L, h1, h2, r⟩ := h
  exact ⟨sl, L, h1, h2.below hb, r⟩
theorem NatIs.mono {w : World} {v : Value} {n K K' : Nat} (h : NatIs w v n K) (hk : K ≤ K') : NatIs w v n K' := by
  obtain ⟨sl, L, h1, h2, h3, h4, h5, h6⟩ := h
  exact ⟨sl, L, h1, h2, h3, h4, h5, by omega⟩
/-- What is owned stays owned where a variable of another type is written. -/
theorem own_box {w : World} {base : Nat} {e : TypeId} {size : Nat} {v : Value} {n : Nat} {xs : List Value} (h : w.ownsRow base e size v n xs) {b : Nat} {u0 : Value} {t : TypeId} (hb : w.heap[b]? = some (.cells #[u0] t (0, 0))) (hne : e ≠ t) (u : Value) :
    (w.setCell ⟨b, 0, none⟩ u).ownsRow base e size v n xs := by
  refine ownsRow_setCell_other h ?_ u
  rcases h.2 with ⟨rfl, _⟩ | ⟨g, cap, cur, rfl, _, hh, _⟩
  · simp [Value.ownBlock]
  · simp only [Value.ownBlock, ne_eq, Option.some.injEq]
    intro e1
    rw [e1, hb] at hh
    simp only [Option.some.injEq, Obj.cells.injEq] at hh
    exact hne hh.2.1.symm
theorem NatIs.box {w : World} {v : Value} {n K : Nat} (h : NatIs w v n K) {b : Nat} {u0 : Value} {t : TypeId} (hb : w.heap[b]? = some (.cells #[u0] t (0, 0))) (hne : 213 ≠ t) (u : Value) : NatIs (w.setCell ⟨b, 0, none⟩ u) v n K := by
  obtain ⟨sl, L, h1, h2, r⟩ := h
  exact ⟨sl, L, h1, own_box h2 hb hne u, r⟩
/-- A variable's block, behind what turned nothing old. -/
theorem box_below {w w' : World} {b B : Nat} {o : Obj} (h : Below B w w') (hb : w.heap[b]? = some o) (hB : b < B) : w'.heap[b]? = some o := (h.block b hB).trans hb
theorem box_alloc {w : World} {b : Nat} {o : Obj} (hb : w.heap[b]? = some o) (o' : Obj) : (w.alloc o').heap[b]? = some o := (Below.heap_alloc w o' b (lt_of_block hb)).trans hb
theorem box_new (w : World) (o : Obj) : (w.alloc o).heap[w.heap.size]? = some o := by
  show (w.heap.push o)[w.heap.size]? = _
  simp
theorem box_set {w : World} {b c : Nat} {o : Obj} (hb : w.heap[b]? = some o) (hne : b ≠ c) (u : Value) : (w.setCell ⟨c, 0, none⟩ u).heap[b]? = some o := (Below.heap_setCell w _ u b hne).trans hb
theorem NatIs.form {w : World} {v : Value} {n K : Nat} (h : NatIs w v n K) : ∃ ao l cap, v = .agg #[.slice ao l cap] := by
  obtain ⟨sl, L, rfl, h2, _⟩ := h
  obtain ⟨ao, cap, rfl⟩ := h2.slice
  exact ⟨ao, _, cap, rfl⟩
end Go.Proofs.YtcdkoadobdgbhaaGreatDoor
/- Small facts that several laws share: worlds one behind the other; variables that were laid; what 'long' counts. -/
namespace Go.Proofs.YtcdkoadobdgbhaaGreatDoor
open Go.RowKit
set_option linter.unusedVariables false

def sg (xs : List ByteArray) (k : Nat) : ByteArray := xs.getD k ByteArray.empty
theorem boxed2 {w u : World} (h : Below w.heap.size w u) (A B : Obj) : Below w.heap.size w ((u.alloc A).alloc B) := below_alloc' (below_alloc' h (Nat.le_refl _) A) (Nat.le_refl _) B
theorem boxed2_first (u : World) (A B : Obj) : ((u.alloc A).alloc B).heap[u.heap.size]? = some A := box_alloc (box_new u A) B
theorem boxed2_second (u : World) (A B : Obj) : ((u.alloc A).alloc B).heap[u.heap.size + 1]? = some B := by
  have := box_new (u.alloc A) B
  simpa using this
theorem chain2 {w a b : World} (h : Below w.heap.size w a) (k : Below a.heap.size a b) : Below w.heap.size w b := h.trans (k.mono h.size)
end Go.Proofs.YtcdkoadobdgbhaaGreatDoor
