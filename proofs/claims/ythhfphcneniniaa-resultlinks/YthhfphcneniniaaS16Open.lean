/- result: blocks and bools that came in. -/
import Derived.Test.YthhfphcneniniaaS16M
import Derived.Deep.Slices
import Derived.Deep.Grids
import Derived.ProofKit
import Derived.OpenShut
namespace Go.Proofs.Ythhfphcneniniaa
open Go.RowKit Go.Deep
set_option linter.unusedVariables false
set_option maxRecDepth 100000
set_option linter.unusedSimpArgs false

theorem kb_blk : Try.prog.cellsOf 27 = 8 := by kernel_rfl
theorem kb_int : Try.prog.cellsOf 3 = 1 := by kernel_rfl
theorem kb_bool : Try.prog.cellsOf 4 = 1 := by kernel_rfl
theorem kb_str : Try.prog.cellsOf 9 = 1 := by kernel_rfl
theorem kb_ints : Try.prog.cellsOf 25 = 1 := by kernel_rfl
section
variable {H : Type} {enc : TypeId × Value → H} {W : World} {base : Nat} {spare : Nat → Bool} {held : Bool}
theorem kints_in {v : Value} {fuel : Nat} {y : DataW H × List MemPlace} (h : DataW.trod enc Try.prog W base spare held fuel 25 [v] = some y) : ∃ L, Ints W v L ∧ ∀ q ∈ L, In64 q := by
  rcases ChangeShapes.open_ints Try.underlying25 Try.underlying3 (by kernel_rfl) h with ⟨hcs, _⟩ | ⟨x, l, c, zs, hcs, _, hl, hm, hz, _, hcell, hwz⟩
  · simp only [List.cons.injEq, and_true] at hcs
    subst hcs
    exact ⟨[], Row1.nil W, by simp⟩
  · simp only [List.cons.injEq, and_true] at hcs
    subst hcs
    have hlz : l ≤ zs.length := by rw [hz]; split <;> omega
    have hlen : (zs.take l).length = l := by rw [List.length_take]; omega
    have hin : ∀ q ∈ zs.take l, In64 q := fun q hq => by
      have hq' := List.mem_of_mem_take hq
      obtain ⟨i, hi, rfl⟩ := List.getElem_of_mem hq'
      have := hwz _ hq'
      have := bounds_i64 this
      unfold In64; omega
    refine ⟨zs.take l, ⟨some x, c, by rw [intV_len, hlen], by rw [intV_len]; omega, hm, ?_⟩, hin⟩
    by_cases h0 : l = 0
    · left; subst h0; simp [intV]
    · right
      obtain ⟨b, off, sp⟩ := x
      cases sp with
      | none =>
        refine ⟨b, off, rfl, fun i hi => ?_⟩
        rw [intV_len, hlen] at hi
        have := hcell i (by omega)
        rw [add_off] at this
        rw [this, intV_at _ _ (by omega), List.getElem_take]
        simp [show i < zs.length by omega]
      | some q =>
        have g0 := hcell 0 (by omega)
        unfold World.cell? at g0
        simp [Addr.add] at g0
        split at g0 <;> simp_all
theorem kint_in {v : Value} {fuel : Nat} {y : DataW H × List MemPlace} (h : DataW.trod enc Try.prog W base spare held fuel 3 [v] = some y) : ∃ n, v = .int .i64 n ∧ In64 n := by
  obtain ⟨n0, q0, _, b0⟩ := DataW.trod_int Try.underlying3 h
  simp only [List.cons.injEq, and_true] at q0
  have c0 := bounds_i64 b0
  exact ⟨n0, q0, by unfold In64; omega⟩
theorem kstr_in {v : Value} {fuel : Nat} {y : DataW H × List MemPlace} (h : DataW.trod enc Try.prog W base spare held fuel 9 [v] = some y) : ∃ n : ByteArray, v = .string n ∧ n.size ≤ 9223372036854775807 := by
  obtain ⟨n0, q0, _, b0⟩ := DataW.trod_string Try.underlying9 h
  simp only [List.cons.injEq, and_true] at q0
  unfold maxLen at b0
  exact ⟨n0, q0, b0⟩
theorem kbool_in {v : Value} {fuel : Nat} {y : DataW H × List MemPlace} (h : DataW.trod enc Try.prog W base spare held fuel 4 [v] = some y) : ∃ n : Bool, v = .bool n := by
  obtain ⟨n0, q0, _⟩ := DataW.trod_bool Try.underlying4 h
  simp only [List.cons.injEq, and_true] at q0
  exact ⟨n0, q0⟩
theorem kblk_in {cs : List Value} {fuel : Nat} {y : DataW H × List MemPlace} (h : DataW.trod enc Try.prog W base spare held fuel 27 cs = some y) :
    ∃ s : Bl, cs = blV s ∧ BlFit s ∧ Ints W (.slice s.qa s.qty.length s.qc) s.qty := by
  obtain ⟨xs, n, hk, hxy, hlen, hxl, hf⟩ := DataW.trod_struct Try.underlying27 h
  rw [kb_blk] at hlen
  match xs, hxl, cs, hlen with
  | [y0, y1, y2, y3, y4, y5, y6, y7], _, [v0, v1, v2, v3, v4, v5, v6, v7], _ =>
    have g0 := hf 0 _ rfl
    have g1 := hf 1 _ rfl
    have g2 := hf 2 _ rfl
    have g3 := hf 3 _ rfl
    have g4 := hf 4 _ rfl
    have g5 := hf 5 _ rfl
    have g6 := hf 6 _ rfl
    have g7 := hf 7 _ rfl
    simp [kb_int, kb_str, kb_bool, kb_ints] at g0 g1 g2 g3 g4 g5 g6 g7
    obtain ⟨n0, rfl, b0⟩ := kstr_in g0
    obtain ⟨n1, rfl, b1⟩ := kint_in g1
    obtain ⟨n2, rfl, b2⟩ := kint_in g2
    obtain ⟨n3, rfl⟩ := kbool_in g3
    obtain ⟨n4, rfl, b4⟩ := kint_in g4
    obtain ⟨L, hL, _⟩ := kints_in g5
    obtain ⟨qa, qc, rfl, _, _⟩ := hL.slice
    obtain ⟨n6, rfl, b6⟩ := kint_in g6
    obtain ⟨n7, rfl, b7⟩ := kint_in g7
    exact ⟨⟨n0, n1, n2, n3, n4, qa, qc, L, n6, n7⟩, rfl, ⟨by unfold maxLen; exact b0, b1, b6, b7⟩, hL⟩
theorem kblAt_of {x : Addr} {k : Nat} {cs : List Value} {fuel : Nat} {y : DataW H × List MemPlace} (h1 : W.cells? base (x.add (k * 8)) 8 = some cs) (h2 : DataW.trod enc Try.prog W base spare held fuel 27 cs = some y) :
    ∃ s : Bl, (∀ j v, (blV s)[j]? = some v → W.cell? (x.add (k * 8 + j)) = some v) ∧ BlFit s ∧ Ints W (.slice s.qa s.qty.length s.qc) s.qty := by
  obtain ⟨_, hlen, hcell⟩ := World.cells?_some h1
  obtain ⟨s, rfl, hfit, hq⟩ := kblk_in h2
  refine ⟨s, fun j v hv => ?_, hfit, hq⟩
  have hj : j < 8 := by
    have := (List.getElem?_eq_some_iff.1 hv).1
    simpa [blV] using this
  have e1 := hcell j (by omega)
  rw [add_add] at e1
  rw [e1]
  exact hv
theorem bks_of {a : Option Addr} {len cap : Nat} {d : DataW H} {ps : List MemPlace} (h : DataW.Trod enc Try.prog W base spare held 22 (.slice a len cap) d ps) : ∃ S, S.length = len ∧ Bks W (.slice a len cap) S := by
  obtain ⟨fuel, hf⟩ := h
  rcases open_slice Try.underlying22 hf with ⟨hcs, _⟩ | ⟨x, l, c, m, n, D, Pl, hcs, _, hl, hm, hmm, _, hx⟩
  · simp [Value.cells] at hcs
    obtain ⟨rfl, rfl, rfl⟩ := hcs
    exact ⟨[], rfl, none, 0, rfl, Nat.zero_le _, by decide, Or.inl rfl⟩
  · simp [Value.cells] at hcs
    obtain ⟨rfl, rfl, rfl⟩ := hcs
    have hlm : len ≤ m := by rw [hmm]; split <;> omega
    by_cases h0 : len = 0
    · subst h0
      exact ⟨[], rfl, some x, cap, rfl, Nat.zero_le _, hm, Or.inl rfl⟩
    · have hv : ∀ i, i < len → ∃ s : Bl, (∀ j v, (blV s)[j]? = some v → W.cell? (x.add (i * 8 + j)) = some v) ∧ BlFit s ∧ Ints W (.slice s.qa s.qty.length s.qc) s.qty := by
        intro i hi
        obtain ⟨cs', h1, h2⟩ := hx i (by omega)
        rw [kb_blk] at h1
        exact kblAt_of h1 h2
      haveI : Inhabited Bl := ⟨⟨ByteArray.empty, 0, 0, false, 0, none, 0, [], 0, 0⟩⟩
      obtain ⟨z, hz⟩ := choose_lt hv
      obtain ⟨b, off, sp⟩ := x
      cases sp with
      | none =>
        refine ⟨(List.range len).map z, by simp, some ⟨b, off, none⟩, cap, by simp, by simpa using hl, hm, Or.inr ⟨b, off, rfl, fun i hi => ?_⟩⟩
        have hi' : i < len := by simpa using hi
        obtain ⟨g, hfit, hq⟩ := hz i hi'
        have q : ∀ j v, (blV (z i))[j]? = some v → W.cell? ⟨b, off + i * 8 + j, none⟩ = some v := fun j v hv => by
          have := g j v hv
          rw [add_off, ← Nat.add_assoc] at this
          exact this
        rw [show ((List.range len).map z)[i] = z i by simp]
        exact ⟨⟨q 0 _ rfl, q 1 _ rfl, q 2 _ rfl, q 3 _ rfl, q 4 _ rfl, q 5 _ rfl, q 6 _ rfl, q 7 _ rfl⟩, hfit, hq⟩
      | some q =>
        have g0 := (hz 0 (by omega)).1 0 _ rfl
        unfold World.cell? at g0
        simp [Addr.add] at g0
        split at g0 <;> simp_all
theorem bols_of {a : Option Addr} {len cap : Nat} {d : DataW H} {ps : List MemPlace} (h : DataW.Trod enc Try.prog W base (fun _ => true) held 23 (.slice a len cap) d ps) : ∃ L, L.length = len ∧ Bols W (.slice a len cap) L := by
  obtain ⟨fuel, hf⟩ := h
  rcases Go.Deep.open_bools Try.underlying23 Try.underlying4 (by kernel_rfl) hf with ⟨hcs, _⟩ | ⟨x, l, c, B, hcs, _, hl, hm, _, hcell⟩
  · simp [Value.cells] at hcs
    obtain ⟨rfl, rfl, rfl⟩ := hcs
    exact ⟨[], rfl, Row1.nil W⟩
  · simp [Value.cells] at hcs
    obtain ⟨rfl, rfl, rfl⟩ := hcs
    refine ⟨(List.range len).map B, by simp, some x, cap, by rw [bolV_len]; simp, by rw [bolV_len]; simpa using hl, hm, ?_⟩
    by_cases h0 : len = 0
    · left; subst h0; simp [bolV]
    · right
      obtain ⟨b, off, sp⟩ := x
      cases sp with
      | none =>
        refine ⟨b, off, rfl, fun i hi => ?_⟩
        rw [bolV_len] at hi
        have hi' : i < len := by simpa using hi
        have := hcell i (by omega)
        rw [add_off] at this
        rw [this, bolV_at _ _ hi]
        simp
      | some q =>
        have g0 := hcell 0 (by omega)
        unfold World.cell? at g0
        simp [Addr.add] at g0
        split at g0 <;> simp_all
end
end Go.Proofs.Ythhfphcneniniaa
