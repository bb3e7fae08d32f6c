/- CCheck, KPv. -/
import Derived.Test.YtcdkoadobdgbhaaGreatDoorPk14
import Derived.BigQuiet
import Derived.Deep.QuietTactic
/- cert: Check of the program and of the document. -/
namespace Go.Proofs.YtcdkoadobdgbhaaGreatDoor
open Go.RowKit
set_option linter.unusedVariables false
set_option maxRecDepth 100000
set_option linter.unusedSimpArgs false

/-- A problem. -/
structure Prb where
  rows : List (List Int)
  rel : List Int
  b : List Int
  c : List Int
/-- A slice of slices of numbers. -/
def IntRows (w : World) (v : Value) (M : List (List Int)) : Prop :=
  ∃ vs : List Value, Row1 w v vs ∧ vs.length = M.length ∧ ∀ i (h1 : i < vs.length) (h2 : i < M.length), Ints w vs[i] M[i]
theorem IntRows.below {w w' : World} {v : Value} {M : List (List Int)} (h : IntRows w v M) (b : Below w.heap.size w w') : IntRows w' v M := by
  obtain ⟨vs, h1, h2, h3⟩ := h
  exact ⟨vs, h1.below b, h2, fun i k1 k2 => (h3 i k1 k2).below b⟩
theorem IntRows.slice {w : World} {v : Value} {M : List (List Int)} (h : IntRows w v M) : ∃ a c, v = .slice a M.length c ∧ M.length ≤ c ∧ c ≤ maxLen := by
  obtain ⟨vs, h1, h2, _⟩ := h
  rw [← h2]
  exact h1.slice
theorem IntRows.at {w : World} {v : Value} {M : List (List Int)} (h : IntRows w v M) (i : Nat) (hi : i < M.length) : ∃ b off c u, v = .slice (some ⟨b, off, none⟩) M.length c ∧ w.cell? ⟨b, off + i, none⟩ = some u ∧ Ints w u M[i] := by
  obtain ⟨vs, h1, h2, h3⟩ := h
  obtain ⟨b, off, c, e, _, _, hc⟩ := h1.at i (by omega)
  exact ⟨b, off, c, _, by rw [e, h2], hc, h3 i (by omega) hi⟩
structure IsPrb (w : World) (rv ev bv cv : Value) (P : Prb) : Prop where
  rows : IntRows w rv P.rows
  rel : Ints w ev P.rel
  b : Ints w bv P.b
  c : Ints w cv P.c
theorem IsPrb.below {w w' : World} {rv ev bv cv : Value} {P : Prb} (h : IsPrb w rv ev bv cv P) (k : Below w.heap.size w w') : IsPrb w' rv ev bv cv P :=
  ⟨h.rows.below k, h.rel.below k, h.b.below k, h.c.below k⟩
theorem bxc {w : World} {b : Nat} {C : Array Value} {t : TypeId} {fz : Nat × Nat} (h : w.heap[b]? = some (.cells C t fz)) (k : Nat) (v : Value) (hk : C[k]? = some v) : w.cell? ⟨b, k, none⟩ = some v := by
  rw [cell_of_row _ _ k _ _ _ h]; exact hk
end Go.Proofs.YtcdkoadobdgbhaaGreatDoor
/- rows of numbers under way, all of them blocks of their own. -/
namespace Go.Proofs.YtcdkoadobdgbhaaGreatDoor
open Go.RowKit
set_option linter.unusedVariables false
set_option maxRecDepth 100000
set_option linter.unusedSimpArgs false

/-- Numbers in a block of one's own. -/
def IO (w : World) (base : Nat) (v : Value) (L : List Int) : Prop := w.ownsRow base 3 1 v L.length (intV L)
theorem IO.ints {w : World} {base : Nat} {v : Value} {L : List Int} (h : IO w base v L) : Ints w v L := Row1.of_own (e := 3) (base := base) (by rw [intV_len]; exact h)
/-- No block in common. -/
def DB (u v : Value) : Prop := ∀ g, u.ownBlock = some g → v.ownBlock ≠ some g
theorem DB.symm {u v : Value} (h : DB u v) : DB v u := fun g h1 h2 => h g h2 h1
theorem DB.kept {u v : Value} (h : DB u v) : u.ownBlock = none ∨ u.ownBlock ≠ v.ownBlock := by
  cases hu : u.ownBlock with
  | none => exact .inl rfl
  | some g => exact .inr (fun e => h g hu e.symm)
theorem DB.grow {u v v' : Value} {n : Nat} (h : DB u v) (hat : v'.ownBlock = v.ownBlock ∨ v'.ownBlock = some n) (hlt : ∀ g, u.ownBlock = some g → g < n) : DB u v' := fun g hg e => by
  rcases hat with hat | hat
  · exact h g hg (hat ▸ e)
  · rw [hat] at e
    have := hlt g hg
    simp only [Option.some.injEq] at e
    omega
theorem own_kindN {w : World} {B : Nat} {e : TypeId} {size : Nat} {v : Value} {n : Nat} {xs : List Value} (h : w.ownsRow B e size v n xs) : ∀ g, v.ownBlock = some g → ∃ c fz, w.heap[g]? = some (.cells c e fz) := by
  intro g hg
  rcases h.2 with ⟨rfl, _⟩ | ⟨g', cap, cur, rfl, hb, hh, _⟩
  · simp [Value.ownBlock] at hg
  · simp only [Value.ownBlock, Option.some.injEq] at hg
    subst hg
    exact ⟨_, _, hh⟩
/-- A problem under way: its rows, all of them blocks of their own. -/
structure PV (w : World) (base : Nat) (vs : List Value) (P : Prb) (rv ev bv cv : Value) : Prop where
  rows : w.ownsRow base 29 1 rv P.rows.length vs
  len : vs.length = P.rows.length
  is_ : ∀ i (h1 : i < vs.length) (h2 : i < P.rows.length), IO w base vs[i] P.rows[i] ∧ DB vs[i] ev ∧ DB vs[i] bv ∧ DB vs[i] cv
  rel : IO w base ev P.rel
  b : IO w base bv P.b
  c : IO w base cv P.c
  eb : DB ev bv
  ec : DB ev cv
  bc : DB bv cv
section
variable {w w' : World} {base : Nat} {vs : List Value} {P : Prb} {rv ev bv cv : Value}
theorem PV.alloc (h : PV w base vs P rv ev bv cv) (o : Obj) : PV (w.alloc o) base vs P rv ev bv cv :=
  ⟨h.rows.alloc o, h.len, fun i h1 h2 => ⟨(h.is_ i h1 h2).1.alloc o, (h.is_ i h1 h2).2⟩, h.rel.alloc o, h.b.alloc o, h.c.alloc o, h.eb, h.ec, h.bc⟩
theorem PV.below (h : PV w base vs P rv ev bv cv) (b : Below w.heap.size w w') : PV w' base vs P rv ev bv cv :=
  ⟨own_below h.rows b, h.len, fun i h1 h2 => ⟨own_below (h.is_ i h1 h2).1 b, (h.is_ i h1 h2).2⟩, own_below h.rel b, own_below h.b b, own_below h.c b, h.eb, h.ec, h.bc⟩
theorem PV.set (h : PV w base vs P rv ev bv cv) {bx i : Nat} {c : Array Value} {t : TypeId} {fz : Nat × Nat} (hb : w.heap[bx]? = some (.cells c t fz)) (h1 : t ≠ 3) (h2 : t ≠ 29) (u : Value) : PV (w.setCell ⟨bx, i, none⟩ u) base vs P rv ev bv cv := by
  have ne : ∀ {e : TypeId} {v : Value} {n : Nat} {xs : List Value}, w.ownsRow base e 1 v n xs → t ≠ e → v.ownBlock ≠ some bx := fun ho hne hg => by
    obtain ⟨c', fz', k⟩ := own_kindN ho bx hg
    rw [hb] at k
    simp only [Option.some.injEq, Obj.cells.injEq] at k
    exact hne k.2.1
  exact ⟨ownsRow_setCell_other h.rows (a := ⟨bx, i, none⟩) (ne h.rows h2) u, h.len, fun j k1 k2 => ⟨ownsRow_setCell_other (h.is_ j k1 k2).1 (a := ⟨bx, i, none⟩) (ne (h.is_ j k1 k2).1 h1) u, (h.is_ j k1 k2).2⟩, ownsRow_setCell_other h.rel (a := ⟨bx, i, none⟩) (ne h.rel h1) u, ownsRow_setCell_other h.b (a := ⟨bx, i, none⟩) (ne h.b h1) u, ownsRow_setCell_other h.c (a := ⟨bx, i, none⟩) (ne h.c h1) u, h.eb, h.ec, h.bc⟩
theorem PV.none (w : World) (base : Nat) : PV w base [] ⟨[], [], [], []⟩ (.slice none 0 0) (.slice none 0 0) (.slice none 0 0) (.slice none 0 0) :=
  ⟨⟨rfl, .inl ⟨rfl, rfl⟩⟩, rfl, fun i h1 h2 => by simp at h1, ⟨rfl, .inl ⟨rfl, rfl⟩⟩, ⟨rfl, .inl ⟨rfl, rfl⟩⟩, ⟨rfl, .inl ⟨rfl, rfl⟩⟩, fun g h => by simp [Value.ownBlock] at h, fun g h => by simp [Value.ownBlock] at h, fun g h => by simp [Value.ownBlock] at h⟩
end
end Go.Proofs.YtcdkoadobdgbhaaGreatDoor
