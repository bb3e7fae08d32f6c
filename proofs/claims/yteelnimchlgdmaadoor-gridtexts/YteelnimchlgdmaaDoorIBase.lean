/- grid: lines and grids in memory. -/
import Derived.Test.YteelnimchlgdmaaDoorLBase
import Derived.Test.YteelnimchlgdmaaDoorIMath
namespace Go.Proofs.YteelnimchlgdmaaDoor
open Go.RowKit
set_option linter.unusedVariables false
set_option maxRecDepth 100000
set_option linter.unusedSimpArgs false

structure Gr where
  zones : Int
  hours : Int
  low : Int
  high : Int
  lines : List Ln
def btw (lo n hi : Int) : Bool := decide (lo ≤ n) && decide (n ≤ hi)
theorem btw_true {lo n hi : Int} (h : btw lo n hi = true) : lo ≤ n ∧ n ≤ hi := by simpa [btw] using h
theorem btw_false {lo n hi : Int} (h : btw lo n hi = false) : ¬ (lo ≤ n ∧ n ≤ hi) := by
  intro k
  rw [show btw lo n hi = true by simp [btw, k.1, k.2]] at h
  cases h
def lnok (z : Int) (l : Ln) : Bool := btw 0 l.f (z - 1) && btw 0 l.t (z - 1) && decide (l.f ≠ l.t) && btw 0 l.c 1000
/-- Which grids may be. -/
def gok (g : Gr) : Bool := btw 1 g.zones 3 && btw 1 g.hours 3 && (btw (-100000) g.low g.high && decide (g.high ≤ 100000)) && decide (g.lines.length ≤ 3) && g.lines.all (lnok g.zones)
theorem lnok_iff {z : Int} {l : Ln} : lnok z l = true ↔ 0 ≤ l.f ∧ l.f ≤ z - 1 ∧ 0 ≤ l.t ∧ l.t ≤ z - 1 ∧ l.f ≠ l.t ∧ 0 ≤ l.c ∧ l.c ≤ 1000 := by
  simp only [lnok, btw, Bool.and_eq_true, decide_eq_true_eq]
  constructor
  · rintro ⟨⟨⟨⟨h1, h2⟩, h3, h4⟩, h5⟩, h6, h7⟩
    exact ⟨h1, h2, h3, h4, h5, h6, h7⟩
  · rintro ⟨h1, h2, h3, h4, h5, h6, h7⟩
    exact ⟨⟨⟨⟨h1, h2⟩, h3, h4⟩, h5⟩, h6, h7⟩
theorem gok_iff {g : Gr} : gok g = true ↔ (1 ≤ g.zones ∧ g.zones ≤ 3) ∧ (1 ≤ g.hours ∧ g.hours ≤ 3) ∧ (-100000 ≤ g.low ∧ g.low ≤ g.high ∧ g.high ≤ 100000) ∧ g.lines.length ≤ 3 ∧ ∀ l ∈ g.lines, lnok g.zones l = true := by
  simp only [gok, btw, Bool.and_eq_true, decide_eq_true_eq, List.all_eq_true]
  constructor
  · rintro ⟨⟨⟨⟨h1, h2⟩, ⟨h3, h4⟩, h5⟩, h6⟩, h7⟩
    exact ⟨h1, h2, ⟨h3, h4, h5⟩, h6, h7⟩
  · rintro ⟨h1, h2, ⟨h3, h4, h5⟩, h6, h7⟩
    exact ⟨⟨⟨⟨h1, h2⟩, ⟨h3, h4⟩, h5⟩, h6⟩, h7⟩
theorem gok_fit {g : Gr} (h : gok g = true) : Fit g.lines g.zones.toNat := by
  obtain ⟨h1, -, -, -, h2⟩ := gok_iff.1 h
  intro l hl
  have k := lnok_iff.1 (h2 l hl)
  omega
def errG (g : Gr) : Int := if gok g = true then 0 else 140
/-- Lines in memory. -/
def Lns (w : World) (v : Value) (S : List Ln) : Prop :=
  ∃ a c, v = .slice a S.length c ∧ S.length ≤ c ∧ c ≤ maxLen ∧ (S = [] ∨ ∃ b off, a = some ⟨b, off, none⟩ ∧ ∀ i (h : i < S.length), w.cell? ⟨b, off + i * 3, none⟩ = some (.int .i64 S[i].f) ∧ w.cell? ⟨b, off + i * 3 + 1, none⟩ = some (.int .i64 S[i].t) ∧ w.cell? ⟨b, off + i * 3 + 2, none⟩ = some (.int .i64 S[i].c))
theorem Lns.below {w w' : World} {v : Value} {S : List Ln} (h : Lns w v S) (k : Below w.heap.size w w') : Lns w' v S := by
  obtain ⟨a, c, h1, h2, h3, h4⟩ := h
  refine ⟨a, c, h1, h2, h3, ?_⟩
  rcases h4 with h4 | ⟨b, off, h4, h5⟩
  · exact Or.inl h4
  · refine Or.inr ⟨b, off, h4, fun i hi => ?_⟩
    obtain ⟨q0, q1, q2⟩ := h5 i hi
    exact ⟨(k.cell (World.block_lt_of_cell? w _ q0)).trans q0, (k.cell (World.block_lt_of_cell? w _ q1)).trans q1, (k.cell (World.block_lt_of_cell? w _ q2)).trans q2⟩
theorem Lns.slice {w : World} {v : Value} {S : List Ln} (h : Lns w v S) : ∃ a c, v = .slice a S.length c ∧ S.length ≤ c ∧ c ≤ maxLen := by
  obtain ⟨a, c, h1, h2, h3, _⟩ := h
  exact ⟨a, c, h1, h2, h3⟩
theorem Lns.at {w : World} {v : Value} {S : List Ln} (h : Lns w v S) (i : Nat) (hi : i < S.length) : ∃ b off c, v = .slice (some ⟨b, off, none⟩) S.length c ∧ S.length ≤ c ∧ c ≤ maxLen ∧ w.cell? ⟨b, off + i * 3, none⟩ = some (.int .i64 S[i].f) ∧ w.cell? ⟨b, off + i * 3 + 1, none⟩ = some (.int .i64 S[i].t) ∧ w.cell? ⟨b, off + i * 3 + 2, none⟩ = some (.int .i64 S[i].c) := by
  obtain ⟨a, c, h1, h2, h3, h4⟩ := h
  rcases h4 with h4 | ⟨b, off, h4, h5⟩
  · rw [h4] at hi; simp at hi
  · exact ⟨b, off, c, by rw [h1, h4], h2, h3, h5 i hi⟩
theorem ibx {w : World} {b : Nat} {C : Array Value} {t : TypeId} {fz : Nat × Nat} (h : w.heap[b]? = some (.cells C t fz)) (k : Nat) (v : Value) (hk : C[k]? = some v) : w.cell? ⟨b, k, none⟩ = some v := by
  rw [cell_of_row _ _ k _ _ _ h]; simpa using hk
theorem ikc {W X : World} {p : Addr} {a : Value} (h : Below W.heap.size W X) (h1 : W.cell? p = some a) : X.cell? p = some a := (h.cell (World.block_lt_of_cell? W _ h1)).trans h1
theorem inew (w : World) (o : Obj) : (w.alloc o).heap[w.heap.size]? = some o := by
  show (w.heap.push o)[w.heap.size]? = _
  simp
theorem ibel (w : World) (o : Obj) : Below w.heap.size w (w.alloc o) := (Below.refl _ _).alloc (Nat.le_refl _) o
/-- A grid's five cells. -/
def gC (g : Gr) (la : Option Addr) (lc : Nat) : Array Value := #[.int .i64 g.zones, .int .i64 g.hours, .slice la g.lines.length lc, .int .i64 g.low, .int .i64 g.high]
end Go.Proofs.YteelnimchlgdmaaDoor
