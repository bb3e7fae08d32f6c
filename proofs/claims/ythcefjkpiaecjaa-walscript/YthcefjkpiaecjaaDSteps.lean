/- Steps that came in; the laws' own helper 'heavy'. -/
import Derived.Test.YthcefjkpiaecjaaDCalm
import Derived.Deep.Slices
import Derived.ProofKit
namespace Go.Proofs.Ythcefjkpiaecjaa
open Go.RowKit Go.Deep
set_option linter.unusedVariables false
set_option maxRecDepth 100000
set_option linter.unusedSimpArgs false

structure Stp where
  kind : Int
  i : Int
  s : ByteArray
  keep : Nat
instance : Inhabited Stp := ⟨⟨0, 0, ByteArray.empty, 0⟩⟩
structure StepFits (v : Stp) : Prop where
  kind : -9223372036854775808 ≤ v.kind ∧ v.kind < 9223372036854775808
  i : -9223372036854775808 ≤ v.i ∧ v.i < 9223372036854775808
  s : v.s.size ≤ 9223372036854775807
  keep : v.keep < 18446744073709551616
/-- The step v lies at b, off. -/
structure StepAt (w : World) (b off : Nat) (v : Stp) : Prop where
  kind : w.cell? ⟨b, off, none⟩ = some (.int .i64 v.kind)
  i : w.cell? ⟨b, off + 1, none⟩ = some (.int .i64 v.i)
  s : w.cell? ⟨b, off + 2, none⟩ = some (.string v.s)
  keep : w.cell? ⟨b, off + 3, none⟩ = some (.int .u64 (v.keep : Int))
/-- A slice of steps that came in. -/
def IsSteps (w : World) (a : Option Addr) (len cap : Nat) (z : Nat → Stp) : Prop :=
  (a = none ∧ len = 0 ∧ cap = 0) ∨
  (len = 0 ∧ cap ≤ maxLen) ∨ ∃ b off, a = some ⟨b, off, none⟩ ∧ len ≤ cap ∧ cap ≤ maxLen ∧ ∀ i, i < len → StepAt w b (off + i * 4) (z i) ∧ StepFits (z i)
theorem step_cells : Try.prog.cellsOf 37 = 4 := by kernel_rfl
theorem step_int : Try.prog.cellsOf 3 = 1 := by kernel_rfl
theorem step_str : Try.prog.cellsOf 9 = 1 := by kernel_rfl
theorem step_u64 : Try.prog.cellsOf 35 = 1 := by kernel_rfl
section
variable {H : Type} {enc : TypeId × Value → H} {W : World} {base : Nat} {spare : Nat → Bool} {held : Bool}
theorem step_of {x : Addr} {k : Nat} {cs : List Value} {fuel : Nat} {y : DataW H × List MemPlace} (h1 : W.cells? base (x.add (k * 4)) 4 = some cs) (h2 : DataW.trod enc Try.prog W base spare held fuel 37 cs = some y) :
    ∃ v : Stp, W.cell? (x.add (k * 4)) = some (.int .i64 v.kind) ∧ W.cell? (x.add (k * 4 + 1)) = some (.int .i64 v.i) ∧ W.cell? (x.add (k * 4 + 2)) = some (.string v.s) ∧ W.cell? (x.add (k * 4 + 3)) = some (.int .u64 (v.keep : Int)) ∧ StepFits v := by
  obtain ⟨_, hlen, hcell⟩ := World.cells?_some h1
  obtain ⟨xs, n, hk, hxy, _, hxl, hf⟩ := DataW.trod_struct Try.underlying37 h2
  match xs, hxl, cs, hlen with
  | [y0, y1, y2, y3], _, [v0, v1, v2, v3], _ =>
    have g0 := hf 0 _ rfl
    have g1 := hf 1 _ rfl
    have g2 := hf 2 _ rfl
    have g3 := hf 3 _ rfl
    simp [step_int, step_str, step_u64] at g0 g1 g2 g3
    have e0 := hcell 0 (by omega)
    have e1 := hcell 1 (by omega)
    have e2 := hcell 2 (by omega)
    have e3 := hcell 3 (by omega)
    rw [add_add] at e0 e1 e2 e3
    obtain ⟨n0, q0, _, b0⟩ := DataW.trod_int Try.underlying3 g0
    obtain ⟨n1, q1, _, b1⟩ := DataW.trod_int Try.underlying3 g1
    obtain ⟨n2, q2, _, b2⟩ := DataW.trod_string Try.underlying9 g2
    obtain ⟨n3, q3, _, b3⟩ := DataW.trod_int Try.underlying35 g3
    simp only [List.cons.injEq, and_true] at q0 q1 q2 q3
    subst q0 q1 q2 q3
    have c0 := bounds_i64 b0
    have c1 := bounds_i64 b1
    have c3 := bounds_u64 b3
    unfold maxLen at b2
    exact ⟨⟨n0, n1, n2, n3.toNat⟩, by simpa using e0, by simpa using e1, by simpa using e2, by rw [show ((n3.toNat : Nat) : Int) = n3 by omega]; simpa using e3, ⟨by show -9223372036854775808 ≤ n0 ∧ n0 < 9223372036854775808; omega, by show -9223372036854775808 ≤ n1 ∧ n1 < 9223372036854775808; omega, by show n2.size ≤ _; omega, by show n3.toNat < _; omega⟩⟩
theorem steps_of {a : Option Addr} {len cap : Nat} {d : DataW H} {ps : List MemPlace} (h : DataW.Trod enc Try.prog W base spare held 22 (.slice a len cap) d ps) : ∃ z, IsSteps W a len cap z := by
  obtain ⟨fuel, hf⟩ := h
  rcases open_slice Try.underlying22 hf with ⟨hcs, _⟩ | ⟨x, l, c, m, n, D, Pl, hcs, _, hl, hm, hmm, _, hx⟩
  · simp [Value.cells] at hcs
    obtain ⟨rfl, rfl, rfl⟩ := hcs
    exact ⟨fun _ => ⟨0, 0, ByteArray.empty, 0⟩, Or.inl ⟨rfl, rfl, rfl⟩⟩
  · simp [Value.cells] at hcs
    obtain ⟨rfl, rfl, rfl⟩ := hcs
    have hlm : len ≤ m := by rw [hmm]; split <;> omega
    by_cases h0 : len = 0
    · exact ⟨fun _ => ⟨0, 0, ByteArray.empty, 0⟩, Or.inr (Or.inl ⟨h0, hm⟩)⟩
    · have hv : ∀ i, i < len → ∃ v : Stp, W.cell? (x.add (i * 4)) = some (.int .i64 v.kind) ∧ W.cell? (x.add (i * 4 + 1)) = some (.int .i64 v.i) ∧ W.cell? (x.add (i * 4 + 2)) = some (.string v.s) ∧ W.cell? (x.add (i * 4 + 3)) = some (.int .u64 (v.keep : Int)) ∧ StepFits v := by
        intro i hi
        obtain ⟨cs', h1, h2⟩ := hx i (by omega)
        rw [step_cells] at h1
        exact step_of h1 h2
      obtain ⟨z, hz⟩ := choose_lt hv
      obtain ⟨b, off, sp⟩ := x
      cases sp with
      | none =>
        refine ⟨z, Or.inr (Or.inr ⟨b, off, rfl, hl, hm, fun i hi => ?_⟩)⟩
        obtain ⟨g0, g1, g2, g3, g4⟩ := hz i hi
        rw [add_off] at g0 g1 g2 g3
        exact ⟨⟨g0, by rw [Nat.add_assoc]; exact g1, by rw [Nat.add_assoc]; exact g2, by rw [Nat.add_assoc]; exact g3⟩, g4⟩
      | some q =>
        have g0 := (hz 0 (by omega)).1
        unfold World.cell? at g0
        simp [Addr.add] at g0
        split at g0 <;> simp_all
end
theorem StepAt.below {w W : World} {b off : Nat} {v : Stp} (h : StepAt w b off v) (hb : Below w.heap.size w W) : StepAt W b off v :=
  have hl : b < w.heap.size := World.block_lt_of_cell? w _ h.kind
  ⟨(hb.cell (p := ⟨b, off, none⟩) hl).trans h.kind, (hb.cell (p := ⟨b, off + 1, none⟩) hl).trans h.i, (hb.cell (p := ⟨b, off + 2, none⟩) hl).trans h.s, (hb.cell (p := ⟨b, off + 3, none⟩) hl).trans h.keep⟩
theorem IsSteps.at {w : World} {a : Option Addr} {len cap : Nat} {z : Nat → Stp} (h : IsSteps w a len cap z) (i : Nat) (hi : i < len) :
    ∃ b off, a = some ⟨b, off, none⟩ ∧ StepAt w b (off + i * 4) (z i) ∧ StepFits (z i) ∧ len ≤ cap ∧ cap ≤ 9223372036854775807 ∧ b < w.heap.size := by
  rcases h with ⟨_, h, _⟩ | ⟨h, _⟩ | ⟨b, off, rfl, h1, h2, h3⟩
  · omega
  · omega
  · unfold maxLen at h2
    exact ⟨b, off, rfl, (h3 i hi).1, (h3 i hi).2, h1, by omega, World.block_lt_of_cell? w _ (h3 i hi).1.kind⟩
theorem IsSteps.len {w : World} {a : Option Addr} {len cap : Nat} {z : Nat → Stp} (h : IsSteps w a len cap z) : len ≤ 9223372036854775807 := by
  rcases h with ⟨_, h, _⟩ | ⟨h, _⟩ | ⟨b, off, rfl, h1, h2, h3⟩
  · omega
  · omega
  · unfold maxLen at h2; omega
/-- What 'heavy' has counted when k steps are looked at. -/
def hsum (z : Nat → Stp) (n : Nat) : Nat → Nat
  | 0 => n
  | k + 1 => hsum z n k + min (z k).s.size 1048576
theorem hsum_ge (z : Nat → Stp) (n : Nat) : ∀ k, n ≤ hsum z n k
  | 0 => Nat.le_refl _
  | k + 1 => by have := hsum_ge z n k; simp only [hsum]; omega
end Go.Proofs.Ythcefjkpiaecjaa
