/- A grid that came in. -/
import Derived.Test.YthhikmlbpagknaaDoorJPar
import Derived.Deep.Slices
import Derived.ProofKit
import Derived.OpenShut
namespace Go.Proofs.YthhikmlbpagknaaDoor
open Go.RowKit Go.Deep
set_option linter.unusedVariables false
set_option maxRecDepth 100000
set_option linter.unusedSimpArgs false

theorem grid_cells : Tryd.prog.cellsOf 24 = 5 := by kernel_rfl
theorem gint_cells : Tryd.prog.cellsOf 3 = 1 := by kernel_rfl
theorem glines_cells : Tryd.prog.cellsOf 22 = 1 := by kernel_rfl
section
variable {H : Type} {enc : TypeId × Value → H} {W : World} {base : Nat} {spare : Nat → Bool} {held : Bool}
theorem lines_in {v : Value} {fuel : Nat} {y : DataW H × List MemPlace} (h : DataW.trod enc Tryd.prog W base spare held fuel 22 [v] = some y) : ∃ a n c, v = .slice a n c ∧ n ≤ 9223372036854775807 := by
  rcases open_slice Tryd.underlying22 h with ⟨hcs, _⟩ | ⟨x, l, c, m, n, D, Pl, hcs, _, hl, hm, _⟩
  · simp at hcs
    exact ⟨_, _, _, hcs, by omega⟩
  · simp at hcs
    unfold maxLen at hm
    exact ⟨_, _, _, hcs, by omega⟩
theorem grid_in {cs : List Value} {fuel : Nat} {y : DataW H × List MemPlace} (h : DataW.trod enc Tryd.prog W base spare held fuel 24 cs = some y) :
    ∃ (g : Gd) (la : Option Addr) (ln lc : Nat), cs = [.int .i64 g.zones, .int .i64 g.hours, .slice la ln lc, .int .i64 g.low, .int .i64 g.high] ∧ g.zones ≤ 9223372036854775807 ∧ g.hours ≤ 9223372036854775807 ∧ ln ≤ 9223372036854775807 := by
  obtain ⟨xs, n, hk, hxy, hlen, hxl, hf⟩ := DataW.trod_struct Tryd.underlying24 h
  rw [grid_cells] at hlen
  match xs, hxl, cs, hlen with
  | [y0, y1, y2, y3, y4], _, [v0, v1, v2, v3, v4], _ =>
    have g0 := hf 0 _ rfl
    have g1 := hf 1 _ rfl
    have g2 := hf 2 _ rfl
    have g3 := hf 3 _ rfl
    have g4 := hf 4 _ rfl
    simp [gint_cells, glines_cells] at g0 g1 g2 g3 g4
    obtain ⟨n0, q0, _, b0⟩ := DataW.trod_int Tryd.underlying3 g0
    obtain ⟨n1, q1, _, b1⟩ := DataW.trod_int Tryd.underlying3 g1
    obtain ⟨la, ln, lc, q2, b2⟩ := lines_in g2
    obtain ⟨n3, q3, _, b3⟩ := DataW.trod_int Tryd.underlying3 g3
    obtain ⟨n4, q4, _, b4⟩ := DataW.trod_int Tryd.underlying3 g4
    simp only [List.cons.injEq, and_true] at q0 q1 q3 q4
    subst q0 q1 q2 q3 q4
    have c0 := bounds_i64 b0
    have c1 := bounds_i64 b1
    exact ⟨⟨n0, n1, n3, n4⟩, la, ln, lc, rfl, by show n0 ≤ _; omega, by show n1 ≤ _; omega, b2⟩
theorem grid_of {v : Value} {d : DataW H} {ps : List MemPlace} {r0 : Reach} {b0 : Nat} (hv : Value.okWide Tryd.prog W r0 b0 24 v) (h : DataW.Trod enc Tryd.prog W base spare held 24 v d ps) :
    ∃ (g : Gd) (la : Option Addr) (ln lc : Nat), v = .agg #[.int .i64 g.zones, .int .i64 g.hours, .slice la ln lc, .int .i64 g.low, .int .i64 g.high] ∧ g.zones ≤ 9223372036854775807 ∧ g.hours ≤ 9223372036854775807 ∧ ln ≤ 9223372036854775807 := by
  obtain ⟨cs, rfl, hsz⟩ := WideShapes.okWide_struct Tryd.underlying24 hv
  obtain ⟨fuel, hf⟩ := h
  obtain ⟨g, la, ln, lc, hcs, h1⟩ := grid_in hf
  refine ⟨g, la, ln, lc, ?_, h1⟩
  congr 1
  have : cs.toList = [.int .i64 g.zones, .int .i64 g.hours, .slice la ln lc, .int .i64 g.low, .int .i64 g.high] := by simpa [Value.cells] using hcs
  cases cs; simp_all
end
end Go.Proofs.YthhikmlbpagknaaDoor
