/- StoreScript's steps that came in. -/
import Derived.Test.YtjldlmonccgopaaGreatZRcOpen
import Derived.Test.YtjldlmonccgopaaGreatPk13
namespace Go.Proofs.YtjldlmonccgopaaGreat.Rc
open Go.RowKit Go.Deep
set_option linter.unusedVariables false
set_option maxRecDepth 100000
set_option linter.unusedSimpArgs false

structure Stq where
  kind : Int
  i : Int
  s : ByteArray
  keep : Nat
  v : Value
  l : List Rec
def stq0 : Stq := ⟨0, 0, ByteArray.empty, 0, .slice none 0 0, []⟩
structure StqFits (w : World) (v : Stq) : Prop where
  kind : -9223372036854775808 ≤ v.kind ∧ v.kind < 9223372036854775808
  i : -9223372036854775808 ≤ v.i ∧ v.i < 9223372036854775808
  s : v.s.size ≤ 9223372036854775807
  keep : v.keep < 18446744073709551616
  recs : IsRecs w v.v v.l
  form : v.v = .slice none 0 0 ∨ ∃ ad n c, v.v = .slice (some ad) n c
/-- The step v lies at b, off. -/
structure StqAt (w : World) (b off : Nat) (v : Stq) : Prop where
  kind : w.cell? ⟨b, off, none⟩ = some (.int .i64 v.kind)
  i : w.cell? ⟨b, off + 1, none⟩ = some (.int .i64 v.i)
  s : w.cell? ⟨b, off + 2, none⟩ = some (.string v.s)
  keep : w.cell? ⟨b, off + 3, none⟩ = some (.int .u64 (v.keep : Int))
  l : w.cell? ⟨b, off + 4, none⟩ = some v.v
/-- A slice of steps that came in. -/
def IsStqs (w : World) (a : Option Addr) (len cap : Nat) (z : Nat → Stq) : Prop :=
  (a = none ∧ len = 0 ∧ cap = 0) ∨
  (len = 0 ∧ cap ≤ maxLen) ∨ ∃ b off, a = some ⟨b, off, none⟩ ∧ len ≤ cap ∧ cap ≤ maxLen ∧ ∀ i, i < len → StqAt w b (off + i * 5) (z i) ∧ StqFits w (z i)
theorem stq_cells : Tryz.prog.cellsOf 38 = 5 := by kernel_rfl
theorem stq_u64 : Tryz.prog.cellsOf 36 = 1 := by kernel_rfl
theorem stq_recs : Tryz.prog.cellsOf 29 = 1 := by kernel_rfl
section
variable {H : Type} {enc : TypeId × Value → H} {W : World} {base : Nat} {spare : Nat → Bool} {held : Bool}
theorem recs_cell {v : Value} {fuel : Nat} {y : DataW H × List MemPlace} (h : DataW.trod enc Tryz.prog W base spare held fuel 29 [v] = some y) : ∃ L : List Rec, IsRecs W v L ∧ (v = .slice none 0 0 ∨ ∃ ad n c, v = .slice (some ad) n c) := by
  rcases open_slice Tryz.underlying29 h with ⟨hcs, _⟩ | ⟨x, l, c, m, n, D, Pl, hcs, _, _⟩
  · simp at hcs
    subst hcs
    obtain ⟨L, _, hL⟩ := recs_in (a := none) (len := 0) (cap := 0) (d := y.1) (ps := y.2) ⟨fuel, by simpa [Value.cells] using h⟩
    exact ⟨L, hL, Or.inl rfl⟩
  · simp at hcs
    subst hcs
    obtain ⟨L, _, hL⟩ := recs_in (a := some x) (len := l) (cap := c) (d := y.1) (ps := y.2) ⟨fuel, by simpa [Value.cells] using h⟩
    exact ⟨L, hL, Or.inr ⟨_, _, _, rfl⟩⟩
theorem stq_of {x : Addr} {k : Nat} {cs : List Value} {fuel : Nat} {y : DataW H × List MemPlace} (h1 : W.cells? base (x.add (k * 5)) 5 = some cs) (h2 : DataW.trod enc Tryz.prog W base spare held fuel 38 cs = some y) :
    ∃ v : Stq, W.cell? (x.add (k * 5)) = some (.int .i64 v.kind) ∧ W.cell? (x.add (k * 5 + 1)) = some (.int .i64 v.i) ∧ W.cell? (x.add (k * 5 + 2)) = some (.string v.s) ∧ W.cell? (x.add (k * 5 + 3)) = some (.int .u64 (v.keep : Int)) ∧ W.cell? (x.add (k * 5 + 4)) = some v.v ∧ StqFits W v := by
  obtain ⟨_, hlen, hcell⟩ := World.cells?_some h1
  obtain ⟨xs, n, hk, hxy, _, hxl, hf⟩ := DataW.trod_struct Tryz.underlying38 h2
  match xs, hxl, cs, hlen with
  | [y0, y1, y2, y3, y4], _, [v0, v1, v2, v3, v4], _ =>
    have g0 := hf 0 _ rfl
    have g1 := hf 1 _ rfl
    have g2 := hf 2 _ rfl
    have g3 := hf 3 _ rfl
    have g4 := hf 4 _ rfl
    simp [int_cells, str_cells, stq_u64, stq_recs] at g0 g1 g2 g3 g4
    have e0 := hcell 0 (by omega)
    have e1 := hcell 1 (by omega)
    have e2 := hcell 2 (by omega)
    have e3 := hcell 3 (by omega)
    have e4 := hcell 4 (by omega)
    rw [add_add] at e0 e1 e2 e3 e4
    obtain ⟨n0, q0, _, b0⟩ := DataW.trod_int Tryz.underlying3 g0
    obtain ⟨n1, q1, _, b1⟩ := DataW.trod_int Tryz.underlying3 g1
    obtain ⟨n2, q2, _, b2⟩ := DataW.trod_string Tryz.underlying9 g2
    obtain ⟨n3, q3, _, b3⟩ := DataW.trod_int Tryz.underlying36 g3
    obtain ⟨L, hL, hF⟩ := recs_cell g4
    simp only [List.cons.injEq, and_true] at q0 q1 q2 q3
    subst q0 q1 q2 q3
    have c0 := bounds_i64 b0
    have c1 := bounds_i64 b1
    have c3 := bounds_u64 b3
    unfold maxLen at b2
    exact ⟨⟨n0, n1, n2, n3.toNat, v4, L⟩, by simpa using e0, by simpa using e1, by simpa using e2, by rw [show ((n3.toNat : Nat) : Int) = n3 by omega]; simpa using e3, by simpa using e4, ⟨by show -9223372036854775808 ≤ n0 ∧ n0 < 9223372036854775808; omega, by show -9223372036854775808 ≤ n1 ∧ n1 < 9223372036854775808; omega, by show n2.size ≤ _; omega, by show n3.toNat < _; omega, hL, hF⟩⟩
theorem stqs_of {a : Option Addr} {len cap : Nat} {d : DataW H} {ps : List MemPlace} (h : DataW.Trod enc Tryz.prog W base spare held 22 (.slice a len cap) d ps) : ∃ z, IsStqs W a len cap z := by
  obtain ⟨fuel, hf⟩ := h
  rcases open_slice Tryz.underlying22 hf with ⟨hcs, _⟩ | ⟨x, l, c, m, n, D, Pl, hcs, _, hl, hm, hmm, _, hx⟩
  · simp [Value.cells] at hcs
    obtain ⟨rfl, rfl, rfl⟩ := hcs
    exact ⟨fun _ => stq0, Or.inl ⟨rfl, rfl, rfl⟩⟩
  · simp [Value.cells] at hcs
    obtain ⟨rfl, rfl, rfl⟩ := hcs
    have hlm : len ≤ m := by rw [hmm]; split <;> omega
    by_cases h0 : len = 0
    · exact ⟨fun _ => stq0, Or.inr (Or.inl ⟨h0, hm⟩)⟩
    · have hv : ∀ i, i < len → ∃ v : Stq, W.cell? (x.add (i * 5)) = some (.int .i64 v.kind) ∧ W.cell? (x.add (i * 5 + 1)) = some (.int .i64 v.i) ∧ W.cell? (x.add (i * 5 + 2)) = some (.string v.s) ∧ W.cell? (x.add (i * 5 + 3)) = some (.int .u64 (v.keep : Int)) ∧ W.cell? (x.add (i * 5 + 4)) = some v.v ∧ StqFits W v := by
        intro i hi
        obtain ⟨cs', h1, h2⟩ := hx i (by omega)
        rw [stq_cells] at h1
        exact stq_of h1 h2
      haveI : Inhabited Stq := ⟨stq0⟩
      obtain ⟨z, hz⟩ := choose_lt hv
      obtain ⟨b, off, sp⟩ := x
      cases sp with
      | none =>
        refine ⟨z, Or.inr (Or.inr ⟨b, off, rfl, hl, hm, fun i hi => ?_⟩)⟩
        obtain ⟨g0, g1, g2, g3, g4, g5⟩ := hz i hi
        rw [add_off] at g0 g1 g2 g3 g4
        exact ⟨⟨g0, by rw [Nat.add_assoc]; exact g1, by rw [Nat.add_assoc]; exact g2, by rw [Nat.add_assoc]; exact g3, by rw [Nat.add_assoc]; exact g4⟩, g5⟩
      | some q =>
        have g0 := (hz 0 (by omega)).1
        unfold World.cell? at g0
        simp [Addr.add] at g0
        split at g0 <;> simp_all
end
theorem StqAt.below {w W : World} {b off : Nat} {v : Stq} (h : StqAt w b off v) (hb : Below w.heap.size w W) : StqAt W b off v :=
  have hl : b < w.heap.size := World.block_lt_of_cell? w _ h.kind
  ⟨(hb.cell (p := ⟨b, off, none⟩) hl).trans h.kind, (hb.cell (p := ⟨b, off + 1, none⟩) hl).trans h.i, (hb.cell (p := ⟨b, off + 2, none⟩) hl).trans h.s, (hb.cell (p := ⟨b, off + 3, none⟩) hl).trans h.keep, (hb.cell (p := ⟨b, off + 4, none⟩) hl).trans h.l⟩
theorem IsStqs.at {w : World} {a : Option Addr} {len cap : Nat} {z : Nat → Stq} (h : IsStqs w a len cap z) (i : Nat) (hi : i < len) :
    ∃ b off, a = some ⟨b, off, none⟩ ∧ StqAt w b (off + i * 5) (z i) ∧ StqFits w (z i) ∧ len ≤ cap ∧ cap ≤ 9223372036854775807 ∧ b < w.heap.size := by
  rcases h with ⟨_, h, _⟩ | ⟨h, _⟩ | ⟨b, off, rfl, h1, h2, h3⟩
  · omega
  · omega
  · unfold maxLen at h2
    exact ⟨b, off, rfl, (h3 i hi).1, (h3 i hi).2, h1, by omega, World.block_lt_of_cell? w _ (h3 i hi).1.kind⟩
theorem IsStqs.len {w : World} {a : Option Addr} {len cap : Nat} {z : Nat → Stq} (h : IsStqs w a len cap z) : len ≤ 9223372036854775807 := by
  rcases h with ⟨_, h, _⟩ | ⟨h, _⟩ | ⟨b, off, rfl, h1, h2, h3⟩
  · omega
  · omega
  · unfold maxLen at h2; omega
end Go.Proofs.YtjldlmonccgopaaGreat.Rc
