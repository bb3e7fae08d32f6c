/- rows of numbers under way, all of them blocks of their own. -/
import Derived.Test.YtlkcfgjhgmpbcaaCCheck
import Derived.Test.YtlkcfgjhgmpbcaaLBase
namespace Go.Proofs.Ytlkcfgjhgmpbcaa
open Go.RowKit
set_option linter.unusedVariables false
set_option maxRecDepth 100000
set_option linter.unusedSimpArgs false

/-- Numbers in a block of one's own. -/
def IO (w : World) (base : Nat) (v : Value) (L : List Int) : Prop := w.ownsRow base 3 1 v L.length (intV L)
theorem IO.ints {w : World} {base : Nat} {v : Value} {L : List Int} (h : IO w base v L) : Ints w v L := Row1.of_own (e := 3) (base := base) (by rw [intV_len]; exact h)
/-- No block in common. -/
def DB (u v : Value) : Prop := ∀ g, u.ownBlock = some g → v.ownBlock ≠ some g
theorem DB.symm {u v : Value} (h : DB u v) : DB v u := fun g h1 h2 => h g h2 h1
theorem DB.kept {u v : Value} (h : DB u v) : u.ownBlock = none ∨ u.ownBlock ≠ v.ownBlock := by
  cases hu : u.ownBlock with
  | none => exact .inl rfl
  | some g => exact .inr (fun e => h g hu e.symm)
theorem DB.grow {u v v' : Value} {n : Nat} (h : DB u v) (hat : v'.ownBlock = v.ownBlock ∨ v'.ownBlock = some n) (hlt : ∀ g, u.ownBlock = some g → g < n) : DB u v' := fun g hg e => by
  rcases hat with hat | hat
  · exact h g hg (hat ▸ e)
  · rw [hat] at e
    have := hlt g hg
    simp only [Option.some.injEq] at e
    omega
theorem DB.new {u : Value} {n : Nat} {v : Value} (hv : v.ownBlock = some n) (hlt : ∀ g, u.ownBlock = some g → g < n) : DB u v := fun g hg e => by
  rw [hv] at e
  have := hlt g hg
  simp only [Option.some.injEq] at e
  omega
theorem own_kindN {w : World} {B : Nat} {e : TypeId} {size : Nat} {v : Value} {n : Nat} {xs : List Value} (h : w.ownsRow B e size v n xs) : ∀ g, v.ownBlock = some g → ∃ c fz, w.heap[g]? = some (.cells c e fz) := by
  intro g hg
  rcases h.2 with ⟨rfl, _⟩ | ⟨g', cap, cur, rfl, hb, hh, _⟩
  · simp [Value.ownBlock] at hg
  · simp only [Value.ownBlock, Option.some.injEq] at hg
    subst hg
    exact ⟨_, _, hh⟩
theorem own_neN {w : World} {B B' : Nat} {e e' : TypeId} {size size' : Nat} {v v' : Value} {n n' : Nat} {xs xs' : List Value} (h : w.ownsRow B e size v n xs) (h' : w.ownsRow B' e' size' v' n' xs') (hne : e ≠ e') : DB v v' := fun g hg hg' => by
  obtain ⟨c, fz, k⟩ := own_kindN h g hg
  obtain ⟨c', fz', k'⟩ := own_kindN h' g hg'
  rw [k] at k'
  simp only [Option.some.injEq, Obj.cells.injEq] at k'
  exact hne k'.2.1
/-- A problem under way: its rows, all of them blocks of their own. -/
structure PV (w : World) (base : Nat) (vs : List Value) (P : Prb) (rv ev bv cv : Value) : Prop where
  rows : w.ownsRow base 26 1 rv P.rows.length vs
  len : vs.length = P.rows.length
  is_ : ∀ i (h1 : i < vs.length) (h2 : i < P.rows.length), IO w base vs[i] P.rows[i] ∧ DB vs[i] ev ∧ DB vs[i] bv ∧ DB vs[i] cv
  rel : IO w base ev P.rel
  b : IO w base bv P.b
  c : IO w base cv P.c
  eb : DB ev bv
  ec : DB ev cv
  bc : DB bv cv
section
variable {w w' : World} {base : Nat} {vs : List Value} {P : Prb} {rv ev bv cv : Value}
theorem PV.alloc (h : PV w base vs P rv ev bv cv) (o : Obj) : PV (w.alloc o) base vs P rv ev bv cv :=
  ⟨h.rows.alloc o, h.len, fun i h1 h2 => ⟨(h.is_ i h1 h2).1.alloc o, (h.is_ i h1 h2).2⟩, h.rel.alloc o, h.b.alloc o, h.c.alloc o, h.eb, h.ec, h.bc⟩
theorem PV.below (h : PV w base vs P rv ev bv cv) (b : Below w.heap.size w w') : PV w' base vs P rv ev bv cv :=
  ⟨own_below h.rows b, h.len, fun i h1 h2 => ⟨own_below (h.is_ i h1 h2).1 b, (h.is_ i h1 h2).2⟩, own_below h.rel b, own_below h.b b, own_below h.c b, h.eb, h.ec, h.bc⟩
theorem PV.set (h : PV w base vs P rv ev bv cv) {bx i : Nat} {c : Array Value} {t : TypeId} {fz : Nat × Nat} (hb : w.heap[bx]? = some (.cells c t fz)) (h1 : t ≠ 3) (h2 : t ≠ 26) (u : Value) : PV (w.setCell ⟨bx, i, none⟩ u) base vs P rv ev bv cv := by
  have ne : ∀ {e : TypeId} {v : Value} {n : Nat} {xs : List Value}, w.ownsRow base e 1 v n xs → t ≠ e → v.ownBlock ≠ some bx := fun ho hne hg => by
    obtain ⟨c', fz', k⟩ := own_kindN ho bx hg
    rw [hb] at k
    simp only [Option.some.injEq, Obj.cells.injEq] at k
    exact hne k.2.1
  exact ⟨ownsRow_setCell_other h.rows (a := ⟨bx, i, none⟩) (ne h.rows h2) u, h.len, fun j k1 k2 => ⟨ownsRow_setCell_other (h.is_ j k1 k2).1 (a := ⟨bx, i, none⟩) (ne (h.is_ j k1 k2).1 h1) u, (h.is_ j k1 k2).2⟩, ownsRow_setCell_other h.rel (a := ⟨bx, i, none⟩) (ne h.rel h1) u, ownsRow_setCell_other h.b (a := ⟨bx, i, none⟩) (ne h.b h1) u, ownsRow_setCell_other h.c (a := ⟨bx, i, none⟩) (ne h.c h1) u, h.eb, h.ec, h.bc⟩
theorem PV.push_r (h : PV w base vs P rv ev bv cv) {u rv' : Value} {L : List Int} (hu : IO w base u L) (d1 : DB u ev) (d2 : DB u bv) (d3 : DB u cv) (ho : w'.ownsRow base 26 1 rv' (P.rows.length + 1) (vs ++ [u])) (hg : w.grownBy w' rv.ownBlock) : PV w' base (vs ++ [u]) { P with rows := P.rows ++ [L] } rv' ev bv cv := by
  have k : ∀ {v : Value} {X : List Int}, IO w base v X → IO w' base v X := fun hv => World.ownsRow.kept hv hg (own_neN hv h.rows (by decide)).kept
  have hl := h.len
  refine ⟨by simpa using ho, by simp [hl], fun i h1 h2 => ?_, k h.rel, k h.b, k h.c, h.eb, h.ec, h.bc⟩
  by_cases hi : i < P.rows.length
  · simp only [List.getElem_append_left hi, List.getElem_append_left (show i < vs.length by omega)]
    obtain ⟨a, b⟩ := h.is_ i (by omega) hi
    exact ⟨k a, b⟩
  · have e : i = P.rows.length := by simp at h2; omega
    subst e
    have e1 : (vs ++ [u])[P.rows.length] = u := by
      rw [List.getElem_append_right (by omega)]
      simp [hl]
    have e2 : (P.rows ++ [L])[P.rows.length]'(by simp) = L := by
      rw [List.getElem_append_right (by omega)]
      simp
    simp only [e1, e2]
    exact ⟨k hu, d1, d2, d3⟩
theorem PV.push_e (h : PV w base vs P rv ev bv cv) {ev' : Value} {x : Int} (ho : w'.ownsRow base 3 1 ev' (P.rel.length + 1) (intV P.rel ++ [.int .i64 x])) (hg : w.grownBy w' ev.ownBlock) (hat : ev'.ownBlock = ev.ownBlock ∨ ev'.ownBlock = some w.heap.size) : PV w' base vs { P with rel := P.rel ++ [x] } rv ev' bv cv := by
  have k : ∀ {v : Value} {X : List Int}, IO w base v X → DB v ev → IO w' base v X := fun hv hd => World.ownsRow.kept hv hg hd.kept
  have lt : ∀ {v : Value} {X : List Int}, IO w base v X → ∀ g, v.ownBlock = some g → g < w.heap.size := fun hv g hg => (World.ownsRow.lt hv g hg).2
  refine ⟨World.ownsRow.kept h.rows hg (own_neN h.rows h.rel (by decide)).kept, h.len, fun i h1 h2 => ?_, ?_, k h.b h.eb.symm, k h.c h.ec.symm, (h.eb.symm.grow hat (lt h.b)).symm, (h.ec.symm.grow hat (lt h.c)).symm, h.bc⟩
  · obtain ⟨a, b, c, d⟩ := h.is_ i h1 h2
    exact ⟨k a b, b.grow hat (lt a), c, d⟩
  · show w'.ownsRow base 3 1 ev' (P.rel ++ [x]).length (intV (P.rel ++ [x]))
    rw [intV_app, List.length_append]
    exact ho
theorem PV.push_b (h : PV w base vs P rv ev bv cv) {bv' : Value} {x : Int} (ho : w'.ownsRow base 3 1 bv' (P.b.length + 1) (intV P.b ++ [.int .i64 x])) (hg : w.grownBy w' bv.ownBlock) (hat : bv'.ownBlock = bv.ownBlock ∨ bv'.ownBlock = some w.heap.size) : PV w' base vs { P with b := P.b ++ [x] } rv ev bv' cv := by
  have k : ∀ {v : Value} {X : List Int}, IO w base v X → DB v bv → IO w' base v X := fun hv hd => World.ownsRow.kept hv hg hd.kept
  have lt : ∀ {v : Value} {X : List Int}, IO w base v X → ∀ g, v.ownBlock = some g → g < w.heap.size := fun hv g hg => (World.ownsRow.lt hv g hg).2
  refine ⟨World.ownsRow.kept h.rows hg (own_neN h.rows h.b (by decide)).kept, h.len, fun i h1 h2 => ?_, k h.rel h.eb, ?_, k h.c h.bc.symm, h.eb.grow hat (lt h.rel), h.ec, (h.bc.symm.grow hat (lt h.c)).symm⟩
  · obtain ⟨a, b, c, d⟩ := h.is_ i h1 h2
    exact ⟨k a c, b, c.grow hat (lt a), d⟩
  · show w'.ownsRow base 3 1 bv' (P.b ++ [x]).length (intV (P.b ++ [x]))
    rw [intV_app, List.length_append]
    exact ho
theorem PV.push_c (h : PV w base vs P rv ev bv cv) {cv' : Value} {x : Int} (ho : w'.ownsRow base 3 1 cv' (P.c.length + 1) (intV P.c ++ [.int .i64 x])) (hg : w.grownBy w' cv.ownBlock) (hat : cv'.ownBlock = cv.ownBlock ∨ cv'.ownBlock = some w.heap.size) : PV w' base vs { P with c := P.c ++ [x] } rv ev bv cv' := by
  have k : ∀ {v : Value} {X : List Int}, IO w base v X → DB v cv → IO w' base v X := fun hv hd => World.ownsRow.kept hv hg hd.kept
  have lt : ∀ {v : Value} {X : List Int}, IO w base v X → ∀ g, v.ownBlock = some g → g < w.heap.size := fun hv g hg => (World.ownsRow.lt hv g hg).2
  refine ⟨World.ownsRow.kept h.rows hg (own_neN h.rows h.c (by decide)).kept, h.len, fun i h1 h2 => ?_, k h.rel h.ec, k h.b h.bc, ?_, h.eb, h.ec.grow hat (lt h.rel), h.bc.grow hat (lt h.b)⟩
  · obtain ⟨a, b, c, d⟩ := h.is_ i h1 h2
    exact ⟨k a d, b, c, d.grow hat (lt a)⟩
  · show w'.ownsRow base 3 1 cv' (P.c ++ [x]).length (intV (P.c ++ [x]))
    rw [intV_app, List.length_append]
    exact ho
theorem PV.none (w : World) (base : Nat) : PV w base [] ⟨[], [], [], []⟩ (.slice none 0 0) (.slice none 0 0) (.slice none 0 0) (.slice none 0 0) :=
  ⟨⟨rfl, .inl ⟨rfl, rfl⟩⟩, rfl, fun i h1 h2 => by simp at h1, ⟨rfl, .inl ⟨rfl, rfl⟩⟩, ⟨rfl, .inl ⟨rfl, rfl⟩⟩, ⟨rfl, .inl ⟨rfl, rfl⟩⟩, fun g h => by simp [Value.ownBlock] at h, fun g h => by simp [Value.ownBlock] at h, fun g h => by simp [Value.ownBlock] at h⟩
theorem PV.prb (h : PV w base vs P rv ev bv cv) : IsPrb w rv ev bv cv P :=
  ⟨⟨vs, Row1.of_own (e := 26) (base := base) (by rw [h.len]; exact h.rows), h.len, fun i h1 h2 => (h.is_ i h1 h2).1.ints⟩, h.rel.ints, h.b.ints, h.c.ints⟩
theorem PV.lt_r (h : PV w base vs P rv ev bv cv) : ∀ g, rv.ownBlock = some g → base ≤ g ∧ g < w.heap.size := h.rows.lt
end
end Go.Proofs.Ytlkcfgjhgmpbcaa
