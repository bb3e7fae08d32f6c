/- Records that came in. -/
import Derived.Test.YtjldlmonccgopaaGreatZRcBase
import Derived.Deep.Slices
import Derived.ProofKit
import Derived.OpenShut
namespace Go.Proofs.YtjldlmonccgopaaGreat.Rc
open Go.RowKit Go.Deep
set_option linter.unusedVariables false
set_option maxRecDepth 100000
set_option linter.unusedSimpArgs false

theorem rec_cells : Tryz.prog.cellsOf 81 = 4 := by kernel_rfl
theorem int_cells : Tryz.prog.cellsOf 3 = 1 := by kernel_rfl
theorem str_cells : Tryz.prog.cellsOf 9 = 1 := by kernel_rfl
theorem ints_cells : Tryz.prog.cellsOf 53 = 1 := by kernel_rfl
section
variable {H : Type} {enc : TypeId × Value → H} {W : World} {base : Nat} {spare : Nat → Bool} {held : Bool}
theorem ints_in {v : Value} {fuel : Nat} {y : DataW H × List MemPlace} (h : DataW.trod enc Tryz.prog W base spare held fuel 53 [v] = some y) : ∃ L, IsInts W v L := by
  rcases ChangeShapes.open_ints Tryz.underlying53 Tryz.underlying3 (by kernel_rfl) h with ⟨hcs, _⟩ | ⟨x, l, c, zs, hcs, _, hl, hm, hz, _, hcell, hwz⟩
  · simp only [List.cons.injEq, and_true] at hcs
    subst hcs
    exact ⟨[], IsInts.nil W⟩
  · simp only [List.cons.injEq, and_true] at hcs
    subst hcs
    have hlz : l ≤ zs.length := by rw [hz]; split <;> omega
    have hlen : (zs.take l).length = l := by rw [List.length_take]; omega
    refine ⟨zs.take l, fun n hn => ?_, some x, c, by rw [hlen], by omega, hm, ?_⟩
    · have := hwz n (List.mem_of_mem_take hn)
      have := bounds_i64 this
      unfold I64; omega
    · by_cases h0 : l = 0
      · exact Or.inl (by rw [h0]; simp)
      · obtain ⟨b, off, sp⟩ := x
        cases sp with
        | none =>
          refine Or.inr ⟨b, off, rfl, fun i hi => ?_⟩
          have h1 := hcell i (by omega)
          rw [add_off] at h1
          rw [h1, List.getElem_take]
          simp [List.getD_eq_getElem?_getD, List.getElem?_eq_getElem (show i < zs.length by omega)]
        | some q =>
          have g0 := hcell 0 (by omega)
          unfold World.cell? at g0
          simp [Addr.add] at g0
          split at g0 <;> simp_all
theorem rec_in {cs : List Value} {fuel : Nat} {y : DataW H × List MemPlace} (h : DataW.trod enc Tryz.prog W base spare held fuel 81 cs = some y) :
    ∃ (r : Rec) (v : Value), cs = [.int .i64 r.kind, .string r.who, v, .string r.text] ∧ RecFits r ∧ IsInts W v r.nums := by
  obtain ⟨xs, n, hk, hxy, hlen, hxl, hf⟩ := DataW.trod_struct Tryz.underlying81 h
  rw [rec_cells] at hlen
  match xs, hxl, cs, hlen with
  | [y0, y1, y2, y3], _, [v0, v1, v2, v3], _ =>
    have g0 := hf 0 _ rfl
    have g1 := hf 1 _ rfl
    have g2 := hf 2 _ rfl
    have g3 := hf 3 _ rfl
    simp [int_cells, str_cells, ints_cells] at g0 g1 g2 g3
    obtain ⟨n0, q0, _, b0⟩ := DataW.trod_int Tryz.underlying3 g0
    obtain ⟨n1, q1, _, b1⟩ := DataW.trod_string Tryz.underlying9 g1
    obtain ⟨L, hL⟩ := ints_in g2
    obtain ⟨n3, q3, _, b3⟩ := DataW.trod_string Tryz.underlying9 g3
    simp only [List.cons.injEq, and_true] at q0 q1 q3
    subst q0 q1 q3
    have c0 := bounds_i64 b0
    exact ⟨⟨n0, n1, L, n3⟩, v2, rfl, ⟨by show I64 n0; unfold I64; omega, b1, b3⟩, hL⟩
theorem recs_in {a : Option Addr} {len cap : Nat} {d : DataW H} {ps : List MemPlace} (h : DataW.Trod enc Tryz.prog W base spare held 29 (.slice a len cap) d ps) : ∃ L : List Rec, L.length = len ∧ IsRecs W (.slice a len cap) L := by
  obtain ⟨fuel, hf⟩ := h
  rcases open_slice Tryz.underlying29 hf with ⟨hcs, _⟩ | ⟨x, l, c, m, n, D, Pl, hcs, _, hl, hm, hmm, _, hx⟩
  · simp [Value.cells] at hcs
    obtain ⟨rfl, rfl, rfl⟩ := hcs
    exact ⟨[], rfl, none, 0, rfl, Nat.le_refl _, Nat.zero_le _, Or.inl rfl⟩
  · simp [Value.cells] at hcs
    obtain ⟨rfl, rfl, rfl⟩ := hcs
    have hlm : len ≤ m := by rw [hmm]; split <;> omega
    have hv : ∀ i, i < len → ∃ r : Rec, RecFits r ∧ ∃ v, IsInts W v r.nums ∧ W.cell? (x.add (i * 4)) = some (.int .i64 r.kind) ∧ W.cell? (x.add (i * 4 + 1)) = some (.string r.who) ∧ W.cell? (x.add (i * 4 + 2)) = some v ∧ W.cell? (x.add (i * 4 + 3)) = some (.string r.text) := by
      intro i hi
      obtain ⟨cs', h1, h2⟩ := hx i (by omega)
      rw [rec_cells] at h1
      obtain ⟨_, hlen, hcell⟩ := World.cells?_some h1
      obtain ⟨r, v, rfl, hr, hI⟩ := rec_in h2
      have e0 := hcell 0 (by omega)
      have e1 := hcell 1 (by omega)
      have e2 := hcell 2 (by omega)
      have e3 := hcell 3 (by omega)
      rw [add_add] at e0 e1 e2 e3
      exact ⟨r, hr, v, hI, by simpa using e0, by simpa using e1, by simpa using e2, by simpa using e3⟩
    by_cases h0 : len = 0
    · subst h0
      exact ⟨[], rfl, some x, cap, rfl, Nat.zero_le _, hm, Or.inl rfl⟩
    · obtain ⟨b, off, sp⟩ := x
      cases sp with
      | none =>
        have : Inhabited Rec := ⟨⟨0, ByteArray.empty, [], ByteArray.empty⟩⟩
        obtain ⟨z, hz⟩ := choose_lt hv
        have hlen : ((List.range len).map z).length = len := by simp
        refine ⟨(List.range len).map z, hlen, some ⟨b, off, none⟩, cap, by rw [hlen], by rw [hlen]; exact hl, hm, Or.inr ⟨b, off, rfl, fun i hi => ?_⟩⟩
        rw [hlen] at hi
        obtain ⟨g0, v, g1, g2, g3, g4, g5⟩ := hz i hi
        rw [add_off] at g2 g3 g4 g5
        simp only [List.getElem_map, List.getElem_range]
        exact ⟨g0, v, g2, by rw [Nat.add_assoc]; exact g3, by rw [Nat.add_assoc]; exact g4, by rw [Nat.add_assoc]; exact g5, g1⟩
      | some q =>
        obtain ⟨r, _, v, _, g0, _⟩ := hv 0 (by omega)
        unfold World.cell? at g0
        simp [Addr.add] at g0
        split at g0 <;> simp_all
theorem ints_of {a : Option Addr} {len cap : Nat} {d : DataW H} {ps : List MemPlace} (h : DataW.Trod enc Tryz.prog W base spare held 53 (.slice a len cap) d ps) : ∃ L : List Int, L.length = len ∧ IsInts W (.slice a len cap) L := by
  obtain ⟨fuel, hf⟩ := h
  obtain ⟨L, hL⟩ := ints_in (v := .slice a len cap) (by simpa [Value.cells] using hf)
  refine ⟨L, ?_, hL⟩
  obtain ⟨_, a', c', e, _⟩ := hL
  simp only [Value.slice.injEq] at e
  exact e.2.1.symm
theorem rec_of {v : Value} {d : DataW H} {ps : List MemPlace} {r0 : Reach} {b0 : Nat} (hv : Value.okWide Tryz.prog W r0 b0 81 v) (h : DataW.Trod enc Tryz.prog W base spare held 81 v d ps) : ∃ (r : Rec) (u : Value), v = rv r u ∧ RecFits r ∧ IsInts W u r.nums := by
  obtain ⟨cs, rfl, hsz⟩ := WideShapes.okWide_struct Tryz.underlying81 hv
  obtain ⟨fuel, hf⟩ := h
  obtain ⟨r, u, hcs, hr, hI⟩ := rec_in hf
  refine ⟨r, u, ?_, hr, hI⟩
  unfold rv
  congr 1
  have : cs.toList = [.int .i64 r.kind, .string r.who, u, .string r.text] := by simpa [Value.cells] using hcs
  cases cs; simp_all
end
end Go.Proofs.YtjldlmonccgopaaGreat.Rc
