/- market: steps that came in. -/
import Derived.Test.YtlkcfgjhgmpbcaaK15M
import Derived.Deep.Slices
import Derived.ProofKit
import Derived.OpenShut
namespace Go.Proofs.Ytlkcfgjhgmpbcaa
open Go.RowKit Go.Deep
set_option linter.unusedVariables false
set_option maxRecDepth 100000
set_option linter.unusedSimpArgs false

def In64 (x : Int) : Prop := -9223372036854775808 ≤ x ∧ x < 9223372036854775808
theorem kb_step : Try.prog.cellsOf 44 = 7 := by kernel_rfl
theorem kb_int : Try.prog.cellsOf 3 = 1 := by kernel_rfl
theorem kb_bool : Try.prog.cellsOf 4 = 1 := by kernel_rfl
theorem kb_str : Try.prog.cellsOf 9 = 1 := by kernel_rfl
section
variable {H : Type} {enc : TypeId × Value → H} {W : World} {base : Nat} {spare : Nat → Bool} {held : Bool}
theorem kints_in {v : Value} {fuel : Nat} {y : DataW H × List MemPlace} (h : DataW.trod enc Try.prog W base spare held fuel 26 [v] = some y) : ∃ L, Ints W v L ∧ ∀ q ∈ L, In64 q := by
  rcases ChangeShapes.open_ints Try.underlying26 Try.underlying3 (by kernel_rfl) h with ⟨hcs, _⟩ | ⟨x, l, c, zs, hcs, _, hl, hm, hz, _, hcell, hwz⟩
  · simp only [List.cons.injEq, and_true] at hcs
    subst hcs
    exact ⟨[], Row1.nil W, by simp⟩
  · simp only [List.cons.injEq, and_true] at hcs
    subst hcs
    have hlz : l ≤ zs.length := by rw [hz]; split <;> omega
    have hlen : (zs.take l).length = l := by rw [List.length_take]; omega
    have hin : ∀ q ∈ zs.take l, In64 q := fun q hq => by
      have hq' := List.mem_of_mem_take hq
      obtain ⟨i, hi, rfl⟩ := List.getElem_of_mem hq'
      have := hwz _ hq'
      have := bounds_i64 this
      unfold In64; omega
    refine ⟨zs.take l, ⟨some x, c, by rw [intV_len, hlen], by rw [intV_len]; omega, hm, ?_⟩, hin⟩
    by_cases h0 : l = 0
    · left; subst h0; simp [intV]
    · right
      obtain ⟨b, off, sp⟩ := x
      cases sp with
      | none =>
        refine ⟨b, off, rfl, fun i hi => ?_⟩
        rw [intV_len, hlen] at hi
        have := hcell i (by omega)
        rw [add_off] at this
        rw [this, intV_at _ _ (by omega), List.getElem_take]
        simp [show i < zs.length by omega]
      | some q =>
        have g0 := hcell 0 (by omega)
        unfold World.cell? at g0
        simp [Addr.add] at g0
        split at g0 <;> simp_all
theorem kint_in {v : Value} {fuel : Nat} {y : DataW H × List MemPlace} (h : DataW.trod enc Try.prog W base spare held fuel 3 [v] = some y) : ∃ n, v = .int .i64 n ∧ In64 n := by
  obtain ⟨n0, q0, _, b0⟩ := DataW.trod_int Try.underlying3 h
  simp only [List.cons.injEq, and_true] at q0
  have c0 := bounds_i64 b0
  exact ⟨n0, q0, by unfold In64; omega⟩
theorem kstr_in {v : Value} {fuel : Nat} {y : DataW H × List MemPlace} (h : DataW.trod enc Try.prog W base spare held fuel 9 [v] = some y) : ∃ n : ByteArray, v = .string n ∧ n.size ≤ 9223372036854775807 := by
  obtain ⟨n0, q0, _, b0⟩ := DataW.trod_string Try.underlying9 h
  simp only [List.cons.injEq, and_true] at q0
  unfold maxLen at b0
  exact ⟨n0, q0, b0⟩
theorem kbool_in {v : Value} {fuel : Nat} {y : DataW H × List MemPlace} (h : DataW.trod enc Try.prog W base spare held fuel 4 [v] = some y) : ∃ n : Bool, v = .bool n := by
  obtain ⟨n0, q0, _⟩ := DataW.trod_bool Try.underlying4 h
  simp only [List.cons.injEq, and_true] at q0
  exact ⟨n0, q0⟩
theorem kstep_in {cs : List Value} {fuel : Nat} {y : DataW H × List MemPlace} (h : DataW.trod enc Try.prog W base spare held fuel 44 cs = some y) :
    ∃ (a : ByteArray) (b c d : Int) (e : Bool) (f g : Int), cs = [.string a, .int .i64 b, .int .i64 c, .int .i64 d, .bool e, .int .i64 f, .int .i64 g] ∧ In64 b ∧ In64 c ∧ In64 d ∧ In64 f ∧ In64 g := by
  obtain ⟨xs, n, hk, hxy, hlen, hxl, hf⟩ := DataW.trod_struct Try.underlying44 h
  rw [kb_step] at hlen
  match xs, hxl, cs, hlen with
  | [y0, y1, y2, y3, y4, y5, y6], _, [v0, v1, v2, v3, v4, v5, v6], _ =>
    have g0 := hf 0 _ rfl
    have g1 := hf 1 _ rfl
    have g2 := hf 2 _ rfl
    have g3 := hf 3 _ rfl
    have g4 := hf 4 _ rfl
    have g5 := hf 5 _ rfl
    have g6 := hf 6 _ rfl
    simp [kb_int, kb_str, kb_bool] at g0 g1 g2 g3 g4 g5 g6
    obtain ⟨n0, rfl, _⟩ := kstr_in g0
    obtain ⟨n1, rfl, b1⟩ := kint_in g1
    obtain ⟨n2, rfl, b2⟩ := kint_in g2
    obtain ⟨n3, rfl, b3⟩ := kint_in g3
    obtain ⟨n4, rfl⟩ := kbool_in g4
    obtain ⟨n5, rfl, b5⟩ := kint_in g5
    obtain ⟨n6, rfl, b6⟩ := kint_in g6
    exact ⟨n0, n1, n2, n3, n4, n5, n6, rfl, b1, b2, b3, b5, b6⟩
theorem kspAt_of {x : Addr} {k : Nat} {cs : List Value} {fuel : Nat} {y : DataW H × List MemPlace} (h1 : W.cells? base (x.add (k * 7)) 7 = some cs) (h2 : DataW.trod enc Try.prog W base spare held fuel 44 cs = some y) :
    ∃ s : Sp, ∀ j v, (spV s)[j]? = some v → W.cell? (x.add (k * 7 + j)) = some v := by
  obtain ⟨_, hlen, hcell⟩ := World.cells?_some h1
  obtain ⟨a, b, c, d, e, f, g, rfl, _⟩ := kstep_in h2
  refine ⟨⟨a, b, c, d, e, f, g⟩, fun j v hv => ?_⟩
  have hj : j < 7 := by
    have := (List.getElem?_eq_some_iff.1 hv).1
    simpa [spV] using this
  have e1 := hcell j (by omega)
  rw [add_add] at e1
  rw [e1]
  exact hv
theorem sps_of {a : Option Addr} {len cap : Nat} {d : DataW H} {ps : List MemPlace} (h : DataW.Trod enc Try.prog W base spare held 25 (.slice a len cap) d ps) : ∃ S, S.length = len ∧ Sps W (.slice a len cap) S := by
  obtain ⟨fuel, hf⟩ := h
  rcases open_slice Try.underlying25 hf with ⟨hcs, _⟩ | ⟨x, l, c, m, n, D, Pl, hcs, _, hl, hm, hmm, _, hx⟩
  · simp [Value.cells] at hcs
    obtain ⟨rfl, rfl, rfl⟩ := hcs
    exact ⟨[], rfl, none, 0, rfl, Nat.zero_le _, by decide, Or.inl rfl⟩
  · simp [Value.cells] at hcs
    obtain ⟨rfl, rfl, rfl⟩ := hcs
    have hlm : len ≤ m := by rw [hmm]; split <;> omega
    by_cases h0 : len = 0
    · subst h0
      exact ⟨[], rfl, some x, cap, rfl, Nat.zero_le _, hm, Or.inl rfl⟩
    · have hv : ∀ i, i < len → ∃ s : Sp, ∀ j v, (spV s)[j]? = some v → W.cell? (x.add (i * 7 + j)) = some v := by
        intro i hi
        obtain ⟨cs', h1, h2⟩ := hx i (by omega)
        rw [kb_step] at h1
        exact kspAt_of h1 h2
      haveI : Inhabited Sp := ⟨⟨ByteArray.empty, 0, 0, 0, false, 0, 0⟩⟩
      obtain ⟨z, hz⟩ := choose_lt hv
      obtain ⟨b, off, sp⟩ := x
      cases sp with
      | none =>
        refine ⟨(List.range len).map z, by simp, some ⟨b, off, none⟩, cap, by simp, by simpa using hl, hm, Or.inr ⟨b, off, rfl, fun i hi => ?_⟩⟩
        have hi' : i < len := by simpa using hi
        have g := hz i hi'
        have q : ∀ j v, (spV (z i))[j]? = some v → W.cell? ⟨b, off + i * 7 + j, none⟩ = some v := fun j v hv => by
          have := g j v hv
          rw [add_off, ← Nat.add_assoc] at this
          exact this
        rw [show ((List.range len).map z)[i] = z i by simp]
        exact ⟨q 0 _ rfl, q 1 _ rfl, q 2 _ rfl, q 3 _ rfl, q 4 _ rfl, q 5 _ rfl, q 6 _ rfl⟩
      | some q =>
        have g0 := hz 0 (by omega) 0 _ rfl
        unfold World.cell? at g0
        simp [Addr.add] at g0
        split at g0 <;> simp_all
end
end Go.Proofs.Ytlkcfgjhgmpbcaa
