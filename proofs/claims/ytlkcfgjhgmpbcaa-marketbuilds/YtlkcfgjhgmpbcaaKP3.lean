/- a problem under way within a drawn region. -/
import Derived.Test.YtlkcfgjhgmpbcaaKIo
import Derived.Test.YtlkcfgjhgmpbcaaK15V
namespace Go.Proofs.Ytlkcfgjhgmpbcaa
open Go.RowKit
set_option linter.unusedVariables false
set_option maxRecDepth 100000
set_option linter.unusedSimpArgs false

structure P3 (tP tv : TypeId) (W5 w : World) (pb vb : Nat) (vs : List Value) (P : Prb) (rv ev bv cv : Value) (bx vc : Array Value) : Prop where
  pv : PV w pb vs P rv ev bv cv
  box : w.heap[pb]? = some (.cells bx tP (0, 0))
  vbx : w.heap[vb]? = some (.cells vc tv (0, 0))
  bel : Below pb W5 w
  sz : pb ≤ w.heap.size
section
variable {tP tv : TypeId} {W5 w w' : World} {pb vb : Nat} {vs : List Value} {P : Prb} {rv ev bv cv : Value} {bx vc : Array Value}
theorem P3.alloc (h : P3 tP tv W5 w pb vb vs P rv ev bv cv bx vc) (o : Obj) : P3 tP tv W5 (w.alloc o) pb vb vs P rv ev bv cv bx vc :=
  ⟨h.pv.alloc o, ((ibel w o).block _ (lt_of_block h.box)).trans h.box, ((ibel w o).block _ (lt_of_block h.vbx)).trans h.vbx, h.bel.alloc h.sz o, by have := h.sz; rw [World.size_alloc]; omega⟩
theorem P3.kept (h : P3 tP tv W5 w pb vb vs P rv ev bv cv bx vc) {e : TypeId} {v : Value} {n : Nat} {xs : List Value} (ho : w.ownsRow pb e 1 v n xs) (hg : w.grownBy w' v.ownBlock) (h1 : tP ≠ e) (h2 : tv ≠ e) :
    w'.heap[pb]? = some (.cells bx tP (0, 0)) ∧ w'.heap[vb]? = some (.cells vc tv (0, 0)) ∧ Below pb W5 w' ∧ pb ≤ w'.heap.size := by
  have ne : ∀ b c t fz, w.heap[b]? = some (.cells c t fz) → t ≠ e → some b ≠ v.ownBlock := fun b c t fz hb hne q => by
    obtain ⟨c', fz', hc⟩ := own_kindN ho b q.symm
    rw [hb] at hc
    simp only [Option.some.injEq, Obj.cells.injEq] at hc
    exact hne hc.2.1
  exact ⟨(hg.block _ (lt_of_block h.box) (ne _ _ _ _ h.box h1)).trans h.box, (hg.block _ (lt_of_block h.vbx) (ne _ _ _ _ h.vbx h2)).trans h.vbx, h.bel.grown hg h.sz (fun x hx => (ho.lt x hx).1), Nat.le_trans h.sz hg.size⟩
theorem P3.pr (h : P3 tP tv W5 w pb vb vs P rv ev bv cv bx vc) (h1 : tP ≠ 26) (h2 : tv ≠ 26) {u rv' : Value} {L : List Int} (hu : IO w pb u L) (d1 : DB u ev) (d2 : DB u bv) (d3 : DB u cv) (ho : w'.ownsRow pb 26 1 rv' (P.rows.length + 1) (vs ++ [u])) (hg : w.grownBy w' rv.ownBlock) :
    P3 tP tv W5 w' pb vb (vs ++ [u]) { P with rows := P.rows ++ [L] } rv' ev bv cv bx vc := by
  obtain ⟨a, b, c, d⟩ := h.kept h.pv.rows hg h1 h2
  exact ⟨h.pv.push_r hu d1 d2 d3 ho hg, a, b, c, d⟩
theorem P3.pe (h : P3 tP tv W5 w pb vb vs P rv ev bv cv bx vc) (h1 : tP ≠ 3) (h2 : tv ≠ 3) {ev' : Value} {x : Int} (ho : w'.ownsRow pb 3 1 ev' (P.rel.length + 1) (intV P.rel ++ [.int .i64 x])) (hg : w.grownBy w' ev.ownBlock) (hat : ev'.ownBlock = ev.ownBlock ∨ ev'.ownBlock = some w.heap.size) :
    P3 tP tv W5 w' pb vb vs { P with rel := P.rel ++ [x] } rv ev' bv cv bx vc := by
  obtain ⟨a, b, c, d⟩ := h.kept h.pv.rel hg h1 h2
  exact ⟨h.pv.push_e ho hg hat, a, b, c, d⟩
theorem P3.pb_ (h : P3 tP tv W5 w pb vb vs P rv ev bv cv bx vc) (h1 : tP ≠ 3) (h2 : tv ≠ 3) {bv' : Value} {x : Int} (ho : w'.ownsRow pb 3 1 bv' (P.b.length + 1) (intV P.b ++ [.int .i64 x])) (hg : w.grownBy w' bv.ownBlock) (hat : bv'.ownBlock = bv.ownBlock ∨ bv'.ownBlock = some w.heap.size) :
    P3 tP tv W5 w' pb vb vs { P with b := P.b ++ [x] } rv ev bv' cv bx vc := by
  obtain ⟨a, b, c, d⟩ := h.kept h.pv.b hg h1 h2
  exact ⟨h.pv.push_b ho hg hat, a, b, c, d⟩
theorem P3.drew (h : P3 tP tv W5 w pb vb vs P rv ev bv cv bx vc) : P3 tP tv W5 w.drew pb vb vs P rv ev bv cv bx vc :=
  ⟨h.pv.below ((Below.refl _ _).drew), h.box, h.vbx, h.bel.drew, h.sz⟩
/-- A slice of one that was built, and is to be appended. -/
structure Pd (w : World) (g : Nat) (t : TypeId) (x : Value) (rv ev bv : Value) : Prop where
  blk : w.heap[g]? = some (.cells #[x] t (0, 0))
  r : rv.ownBlock ≠ some g
  e : ev.ownBlock ≠ some g
  b : bv.ownBlock ≠ some g
theorem Pd.new (h : P3 tP tv W5 w pb vb vs P rv ev bv cv bx vc) (t : TypeId) (x : Value) : Pd (w.alloc (.cells #[x] t)) w.heap.size t x rv ev bv :=
  ⟨inew w _, fun q => by have := (h.pv.rows.lt _ q).2; omega, fun q => by have := (World.ownsRow.lt h.pv.rel _ q).2; omega, fun q => by have := (World.ownsRow.lt h.pv.b _ q).2; omega⟩
theorem Pd.alloc {g : Nat} {t : TypeId} {x : Value} (h : Pd w g t x rv ev bv) (o : Obj) : Pd (w.alloc o) g t x rv ev bv :=
  ⟨((ibel w o).block _ (lt_of_block h.blk)).trans h.blk, h.r, h.e, h.b⟩
theorem Pd.news {g : Nat} {t : TypeId} {x : Value} (h : Pd w g t x rv ev bv) : ∀ j u, [x][j]? = some u → w.cell? ((⟨g, 0, none⟩ : Addr).add j) = some u := by
  intro j u hj
  rw [add_off, Nat.zero_add]
  exact cell_at (L := [x]) h.blk j u hj
theorem Pd.gr {g : Nat} {t : TypeId} {x : Value} {rv' : Value} (h : Pd w g t x rv ev bv) (hg : w.grownBy w' rv.ownBlock) (hat : rv'.ownBlock = rv.ownBlock ∨ rv'.ownBlock = some w.heap.size) : Pd w' g t x rv' ev bv :=
  ⟨(hg.block _ (lt_of_block h.blk) (fun q => h.r q.symm)).trans h.blk, fun q => by
    rcases hat with k | k
    · exact h.r (k ▸ q)
    · rw [k] at q
      have := lt_of_block h.blk
      simp only [Option.some.injEq] at q
      omega, h.e, h.b⟩
theorem Pd.ge {g : Nat} {t : TypeId} {x : Value} {ev' : Value} (h : Pd w g t x rv ev bv) (hg : w.grownBy w' ev.ownBlock) (hat : ev'.ownBlock = ev.ownBlock ∨ ev'.ownBlock = some w.heap.size) : Pd w' g t x rv ev' bv :=
  ⟨(hg.block _ (lt_of_block h.blk) (fun q => h.e q.symm)).trans h.blk, h.r, fun q => by
    rcases hat with k | k
    · exact h.e (k ▸ q)
    · rw [k] at q
      have := lt_of_block h.blk
      simp only [Option.some.injEq] at q
      omega, h.b⟩
theorem IO.drewK {base : Nat} {u : Value} {L : List Int} (h : IO w base u L) : IO w.drew base u L := World.ownsRow.drew h
end
end Go.Proofs.Ytlkcfgjhgmpbcaa
