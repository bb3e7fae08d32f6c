/- grid: a grid that came in. -/
import Derived.Test.YtcdkoadobdgbhaaGreatDoorPk14
import Derived.Deep.Slices
import Derived.ProofKit
import Derived.OpenShut
namespace Go.Proofs.YtcdkoadobdgbhaaGreatDoor
open Go.RowKit Go.Deep
set_option linter.unusedVariables false
set_option maxRecDepth 100000
set_option linter.unusedSimpArgs false

theorem ic_int : Tryz.prog.cellsOf 3 = 1 := by kernel_rfl
theorem ic_lines : Tryz.prog.cellsOf 23 = 1 := by kernel_rfl
theorem ic_line : Tryz.prog.cellsOf 143 = 3 := by kernel_rfl
theorem ic_grid : Tryz.prog.cellsOf 25 = 5 := by kernel_rfl
section
variable {H : Type} {enc : TypeId × Value → H} {W : World} {base : Nat} {spare : Nat → Bool} {held : Bool}
theorem iline_of {x : Addr} {k : Nat} {cs : List Value} {fuel : Nat} {y : DataW H × List MemPlace} (h1 : W.cells? base (x.add (k * 3)) 3 = some cs) (h2 : DataW.trod enc Tryz.prog W base spare held fuel 143 cs = some y) :
    ∃ l : Ln, W.cell? (x.add (k * 3)) = some (.int .i64 l.f) ∧ W.cell? (x.add (k * 3 + 1)) = some (.int .i64 l.t) ∧ W.cell? (x.add (k * 3 + 2)) = some (.int .i64 l.c) := by
  obtain ⟨_, hlen, hcell⟩ := World.cells?_some h1
  obtain ⟨xs, n, hk, hxy, _, hxl, hf⟩ := DataW.trod_struct Tryz.underlying143 h2
  match xs, hxl, cs, hlen with
  | [y0, y1, y2], _, [v0, v1, v2], _ =>
    have g0 := hf 0 _ rfl
    have g1 := hf 1 _ rfl
    have g2 := hf 2 _ rfl
    simp [ic_int] at g0 g1 g2
    have e0 := hcell 0 (by omega)
    have e1 := hcell 1 (by omega)
    have e2 := hcell 2 (by omega)
    rw [add_add] at e0 e1 e2
    obtain ⟨n0, q0, _, b0⟩ := DataW.trod_int Tryz.underlying3 g0
    obtain ⟨n1, q1, _, b1⟩ := DataW.trod_int Tryz.underlying3 g1
    obtain ⟨n2, q2, _, b2⟩ := DataW.trod_int Tryz.underlying3 g2
    simp only [List.cons.injEq, and_true] at q0 q1 q2
    subst q0 q1 q2
    exact ⟨⟨n0, n1, n2⟩, by simpa using e0, by simpa using e1, by simpa using e2⟩
theorem ilines_in {v : Value} {fuel : Nat} {y : DataW H × List MemPlace} (h : DataW.trod enc Tryz.prog W base spare held fuel 23 [v] = some y) : ∃ S, Lns W v S := by
  rcases open_slice Tryz.underlying23 h with ⟨hcs, _⟩ | ⟨x, l, c, m, n, D, Pl, hcs, _, hl, hm, hmm, _, hx⟩
  · simp only [List.cons.injEq, and_true] at hcs
    subst hcs
    exact ⟨[], none, 0, rfl, Nat.zero_le _, by decide, Or.inl rfl⟩
  · simp only [List.cons.injEq, and_true] at hcs
    subst hcs
    have hlm : l ≤ m := by rw [hmm]; split <;> omega
    by_cases h0 : l = 0
    · subst h0
      exact ⟨[], some x, c, rfl, Nat.zero_le _, hm, Or.inl rfl⟩
    · have hv : ∀ i, i < l → ∃ s : Ln, W.cell? (x.add (i * 3)) = some (.int .i64 s.f) ∧ W.cell? (x.add (i * 3 + 1)) = some (.int .i64 s.t) ∧ W.cell? (x.add (i * 3 + 2)) = some (.int .i64 s.c) := by
        intro i hi
        obtain ⟨cs', h1, h2⟩ := hx i (by omega)
        rw [ic_line] at h1
        exact iline_of h1 h2
      obtain ⟨z, hz⟩ := choose_lt hv
      obtain ⟨b, off, sp⟩ := x
      cases sp with
      | none =>
        refine ⟨(List.range l).map z, some ⟨b, off, none⟩, c, by simp, by simpa using hl, hm, Or.inr ⟨b, off, rfl, fun i hi => ?_⟩⟩
        have hi' : i < l := by simpa using hi
        obtain ⟨g0, g1, g2⟩ := hz i hi'
        rw [add_off] at g0 g1 g2
        exact ⟨by simpa using g0, by rw [Nat.add_assoc]; simpa using g1, by rw [Nat.add_assoc]; simpa using g2⟩
      | some q =>
        have g0 := (hz 0 (by omega)).1
        unfold World.cell? at g0
        simp [Addr.add] at g0
        split at g0 <;> simp_all
theorem igrid_in {cs : List Value} {fuel : Nat} {y : DataW H × List MemPlace} (h : DataW.trod enc Tryz.prog W base spare held fuel 25 cs = some y) :
    ∃ (g : Gr) (la : Option Addr) (lc : Nat), cs = [.int .i64 g.zones, .int .i64 g.hours, .slice la g.lines.length lc, .int .i64 g.low, .int .i64 g.high] ∧ Lns W (.slice la g.lines.length lc) g.lines := by
  obtain ⟨xs, n, hk, hxy, hlen, hxl, hf⟩ := DataW.trod_struct Tryz.underlying25 h
  rw [ic_grid] at hlen
  match xs, hxl, cs, hlen with
  | [y0, y1, y2, y3, y4], _, [v0, v1, v2, v3, v4], _ =>
    have g0 := hf 0 _ rfl
    have g1 := hf 1 _ rfl
    have g2 := hf 2 _ rfl
    have g3 := hf 3 _ rfl
    have g4 := hf 4 _ rfl
    simp [ic_int, ic_lines] at g0 g1 g2 g3 g4
    obtain ⟨n0, q0, _, b0⟩ := DataW.trod_int Tryz.underlying3 g0
    obtain ⟨n1, q1, _, b1⟩ := DataW.trod_int Tryz.underlying3 g1
    obtain ⟨S, hS⟩ := ilines_in g2
    obtain ⟨n3, q3, _, b3⟩ := DataW.trod_int Tryz.underlying3 g3
    obtain ⟨n4, q4, _, b4⟩ := DataW.trod_int Tryz.underlying3 g4
    obtain ⟨a, c, q2, _, _⟩ := hS.slice
    simp only [List.cons.injEq, and_true] at q0 q1 q3 q4
    subst q0 q1 q2 q3 q4
    exact ⟨⟨n0, n1, n3, n4, S⟩, a, c, rfl, hS⟩
end
end Go.Proofs.YtcdkoadobdgbhaaGreatDoor
