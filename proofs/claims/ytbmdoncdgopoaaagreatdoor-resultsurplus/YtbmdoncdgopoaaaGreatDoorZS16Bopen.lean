/- result: a block, and slices of slices of texts, that came in. -/
import Derived.Test.YtbmdoncdgopoaaaGreatDoorPk39
import Derived.Test.YtbmdoncdgopoaaaGreatDoorZIStrs
namespace Go.Proofs.YtbmdoncdgopoaaaGreatDoor
open Go.RowKit Go.Deep
set_option linter.unusedVariables false
set_option maxRecDepth 100000
set_option linter.unusedSimpArgs false

theorem kb_blk : Tryz.prog.cellsOf 54 = 8 := by kernel_rfl
theorem kb_int : Tryz.prog.cellsOf 3 = 1 := by kernel_rfl
theorem kb_bool : Tryz.prog.cellsOf 4 = 1 := by kernel_rfl
theorem kb_str : Tryz.prog.cellsOf 9 = 1 := by kernel_rfl
theorem kb_ints : Tryz.prog.cellsOf 29 = 1 := by kernel_rfl
theorem kb_strs : Tryz.prog.cellsOf 39 = 1 := by kernel_rfl
section
variable {H : Type} {enc : TypeId × Value → H} {W : World} {base : Nat} {spare : Nat → Bool} {held : Bool}
theorem kints_in {v : Value} {fuel : Nat} {y : DataW H × List MemPlace} (h : DataW.trod enc Tryz.prog W base spare held fuel 29 [v] = some y) : ∃ L, Ints W v L ∧ ∀ q ∈ L, In64 q := by
  rcases ChangeShapes.open_ints Tryz.underlying29 Tryz.underlying3 (by kernel_rfl) h with ⟨hcs, _⟩ | ⟨x, l, c, zs, hcs, _, hl, hm, hz, _, hcell, hwz⟩
  · simp only [List.cons.injEq, and_true] at hcs
    subst hcs
    exact ⟨[], Row1.nil W, by simp⟩
  · simp only [List.cons.injEq, and_true] at hcs
    subst hcs
    have hlz : l ≤ zs.length := by rw [hz]; split <;> omega
    have hlen : (zs.take l).length = l := by rw [List.length_take]; omega
    have hin : ∀ q ∈ zs.take l, In64 q := fun q hq => by
      have hq' := List.mem_of_mem_take hq
      obtain ⟨i, hi, rfl⟩ := List.getElem_of_mem hq'
      have := hwz _ hq'
      have := bounds_i64 this
      unfold In64; omega
    refine ⟨zs.take l, ⟨some x, c, by rw [intV_len, hlen], by rw [intV_len]; omega, hm, ?_⟩, hin⟩
    by_cases h0 : l = 0
    · left; subst h0; simp [intV]
    · right
      obtain ⟨b, off, sp⟩ := x
      cases sp with
      | none =>
        refine ⟨b, off, rfl, fun i hi => ?_⟩
        rw [intV_len, hlen] at hi
        have := hcell i (by omega)
        rw [add_off] at this
        rw [this, intV_at _ _ (by omega), List.getElem_take]
        simp [show i < zs.length by omega]
      | some q =>
        have g0 := hcell 0 (by omega)
        unfold World.cell? at g0
        simp [Addr.add] at g0
        split at g0 <;> simp_all
theorem kint_in {v : Value} {fuel : Nat} {y : DataW H × List MemPlace} (h : DataW.trod enc Tryz.prog W base spare held fuel 3 [v] = some y) : ∃ n, v = .int .i64 n ∧ In64 n := by
  obtain ⟨n0, q0, _, b0⟩ := DataW.trod_int Tryz.underlying3 h
  simp only [List.cons.injEq, and_true] at q0
  have c0 := bounds_i64 b0
  exact ⟨n0, q0, by unfold In64; omega⟩
theorem kstr_in {v : Value} {fuel : Nat} {y : DataW H × List MemPlace} (h : DataW.trod enc Tryz.prog W base spare held fuel 9 [v] = some y) : ∃ n : ByteArray, v = .string n ∧ n.size ≤ 9223372036854775807 := by
  obtain ⟨n0, q0, _, b0⟩ := DataW.trod_string Tryz.underlying9 h
  simp only [List.cons.injEq, and_true] at q0
  unfold maxLen at b0
  exact ⟨n0, q0, b0⟩
theorem kbool_in {v : Value} {fuel : Nat} {y : DataW H × List MemPlace} (h : DataW.trod enc Tryz.prog W base spare held fuel 4 [v] = some y) : ∃ n : Bool, v = .bool n := by
  obtain ⟨n0, q0, _⟩ := DataW.trod_bool Tryz.underlying4 h
  simp only [List.cons.injEq, and_true] at q0
  exact ⟨n0, q0⟩
theorem kblk5_in {cs : List Value} {fuel : Nat} {y : DataW H × List MemPlace} (h : DataW.trod enc Tryz.prog W base spare held fuel 54 cs = some y) :
    ∃ (n0 : ByteArray) (n1 n2 : Int) (n3 : Bool) (n4 : Int) (qa : Option Addr) (qc : Nat) (L : List Int) (n6 n7 : Int), cs = [.string n0, .int .i64 n1, .int .i64 n2, .bool n3, .int .i64 n4, .slice qa L.length qc, .int .i64 n6, .int .i64 n7] ∧ Ints W (.slice qa L.length qc) L ∧ In64 n4 ∧ ∀ q ∈ L, In64 q := by
  obtain ⟨xs, n, hk, hxy, hlen, hxl, hf⟩ := DataW.trod_struct Tryz.underlying54 h
  rw [kb_blk] at hlen
  match xs, hxl, cs, hlen with
  | [y0, y1, y2, y3, y4, y5, y6, y7], _, [v0, v1, v2, v3, v4, v5, v6, v7], _ =>
    have g0 := hf 0 _ rfl
    have g1 := hf 1 _ rfl
    have g2 := hf 2 _ rfl
    have g3 := hf 3 _ rfl
    have g4 := hf 4 _ rfl
    have g5 := hf 5 _ rfl
    have g6 := hf 6 _ rfl
    have g7 := hf 7 _ rfl
    simp [kb_int, kb_str, kb_bool, kb_ints] at g0 g1 g2 g3 g4 g5 g6 g7
    obtain ⟨n0, rfl, b0⟩ := kstr_in g0
    obtain ⟨n1, rfl, b1⟩ := kint_in g1
    obtain ⟨n2, rfl, b2⟩ := kint_in g2
    obtain ⟨n3, rfl⟩ := kbool_in g3
    obtain ⟨n4, rfl, b4⟩ := kint_in g4
    obtain ⟨L, hL, hLq⟩ := kints_in g5
    obtain ⟨qa, qc, rfl, _, _⟩ := hL.slice
    obtain ⟨n6, rfl, b6⟩ := kint_in g6
    obtain ⟨n7, rfl, b7⟩ := kint_in g7
    exact ⟨n0, n1, n2, n3, n4, qa, qc, L, n6, n7, rfl, hL, b4, hLq⟩
theorem blk5_of {v : Value} {d : DataW H} {ps : List MemPlace} {r0 : Reach} {b0 : Nat} (hv : Value.okWide Tryz.prog W r0 b0 54 v) (h : DataW.Trod enc Tryz.prog W base spare held 54 v d ps) :
    ∃ (n0 : ByteArray) (n1 n2 : Int) (n3 : Bool) (n4 : Int) (qa : Option Addr) (qc : Nat) (L : List Int) (n6 n7 : Int), v = .agg #[.string n0, .int .i64 n1, .int .i64 n2, .bool n3, .int .i64 n4, .slice qa L.length qc, .int .i64 n6, .int .i64 n7] ∧ Ints W (.slice qa L.length qc) L ∧ In64 n4 ∧ ∀ q ∈ L, In64 q := by
  obtain ⟨cs, rfl, hsz⟩ := WideShapes.okWide_struct Tryz.underlying54 hv
  obtain ⟨fuel, hf⟩ := h
  obtain ⟨n0, n1, n2, n3, n4, qa, qc, L, n6, n7, hcs, h1⟩ := kblk5_in hf
  refine ⟨n0, n1, n2, n3, n4, qa, qc, L, n6, n7, ?_, h1⟩
  congr 1
  have : cs.toList = [.string n0, .int .i64 n1, .int .i64 n2, .bool n3, .int .i64 n4, .slice qa L.length qc, .int .i64 n6, .int .i64 n7] := by simpa [Value.cells] using hcs
  cases cs; simp_all
theorem sss_of {a : Option Addr} {len cap : Nat} {d : DataW H} {ps : List MemPlace} (h : DataW.Trod enc Tryz.prog W base spare held 40 (.slice a len cap) d ps) : ∃ P : List (List ByteArray), P.length = len ∧ Sss W (.slice a len cap) P := by
  obtain ⟨fuel, hf⟩ := h
  rcases open_slice Tryz.underlying40 hf with ⟨hcs, _⟩ | ⟨x, l, c, m, n, D, Pl, hcs, _, hl, hm, hmm, _, hx⟩
  · simp [Value.cells] at hcs
    obtain ⟨rfl, rfl, rfl⟩ := hcs
    exact ⟨[], rfl, none, 0, rfl, Nat.zero_le _, by decide, Or.inl rfl⟩
  · simp [Value.cells] at hcs
    obtain ⟨rfl, rfl, rfl⟩ := hcs
    have hlm : len ≤ m := by rw [hmm]; split <;> omega
    by_cases h0 : len = 0
    · subst h0
      exact ⟨[], rfl, some x, cap, rfl, Nat.zero_le _, hm, Or.inl rfl⟩
    · have hv : ∀ i, i < len → ∃ r : Value × List ByteArray, W.cell? (x.add i) = some r.1 ∧ Strs W r.1 r.2 := by
        intro i hi
        obtain ⟨cs', h1, h2⟩ := hx i (by omega)
        rw [kb_strs] at h1
        obtain ⟨_, hlen, hcell⟩ := World.cells?_some h1
        match cs', hlen with
        | [u], _ =>
          obtain ⟨L, hL⟩ := cstrs_in h2
          have e0 := hcell 0 (by simp)
          rw [add_add] at e0
          exact ⟨(u, L), by simpa using e0, hL⟩
      have : Inhabited (Value × List ByteArray) := ⟨(.bool false, [])⟩
      obtain ⟨z, hz⟩ := choose_lt hv
      obtain ⟨b, off, sp⟩ := x
      cases sp with
      | none =>
        refine ⟨(List.range len).map (fun i => (z i).2), by simp, some ⟨b, off, none⟩, cap, by simp, by simpa using hl, hm, Or.inr ⟨b, off, rfl, fun i hi => ?_⟩⟩
        have hi' : i < len := by simpa using hi
        obtain ⟨g, hs⟩ := hz i hi'
        rw [add_off] at g
        exact ⟨(z i).1, g, by simpa using hs⟩
      | some q =>
        obtain ⟨r, g0, _⟩ := hv 0 (by omega)
        unfold World.cell? at g0
        simp [Addr.add] at g0
        split at g0 <;> simp_all
end
end Go.Proofs.YtbmdoncdgopoaaaGreatDoor
