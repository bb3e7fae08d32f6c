/- price: a case that came in. -/
import Derived.Test.YtcdkoadobdgbhaaGreatDoorZK15M
import Derived.Deep.Slices
import Derived.Deep.Grids
import Derived.ProofKit
import Derived.OpenShut
import Derived.Test.YtcdkoadobdgbhaaGreatDoorZIOpen
import Derived.Test.YtcdkoadobdgbhaaGreatDoorZIStrs
import Derived.Test.YtcdkoadobdgbhaaGreatDoorPk44
import Derived.Test.YtcdkoadobdgbhaaGreatDoorPk14
import Derived.SizedLaws
namespace Go.Proofs.YtcdkoadobdgbhaaGreatDoor
open Go.RowKit Go.Deep
set_option linter.unusedVariables false
set_option maxRecDepth 100000
set_option linter.unusedSimpArgs false

theorem kb_step : Tryz.prog.cellsOf 27 = 7 := by kernel_rfl
theorem kb_int : Tryz.prog.cellsOf 3 = 1 := by kernel_rfl
theorem kb_bool : Tryz.prog.cellsOf 4 = 1 := by kernel_rfl
theorem kb_str : Tryz.prog.cellsOf 9 = 1 := by kernel_rfl
theorem kb_blk : Tryz.prog.cellsOf 80 = 8 := by kernel_rfl
theorem kb_ints : Tryz.prog.cellsOf 29 = 1 := by kernel_rfl
theorem kb_strs : Tryz.prog.cellsOf 39 = 1 := by kernel_rfl
theorem kb_grid : Tryz.prog.cellsOf 25 = 5 := by kernel_rfl
theorem kb_sss : Tryz.prog.cellsOf 40 = 1 := by kernel_rfl
theorem kb_steps : Tryz.prog.cellsOf 28 = 1 := by kernel_rfl
theorem kb_blocks : Tryz.prog.cellsOf 46 = 1 := by kernel_rfl
theorem kb_bools : Tryz.prog.cellsOf 41 = 1 := by kernel_rfl
section
variable {H : Type} {enc : TypeId × Value → H} {W : World} {base : Nat} {spare : Nat → Bool} {held : Bool}
theorem kints_in {v : Value} {fuel : Nat} {y : DataW H × List MemPlace} (h : DataW.trod enc Tryz.prog W base spare held fuel 29 [v] = some y) : ∃ L, Ints W v L ∧ ∀ q ∈ L, In64 q := by
  rcases ChangeShapes.open_ints Tryz.underlying29 Tryz.underlying3 (by kernel_rfl) h with ⟨hcs, _⟩ | ⟨x, l, c, zs, hcs, _, hl, hm, hz, _, hcell, hwz⟩
  · simp only [List.cons.injEq, and_true] at hcs
    subst hcs
    exact ⟨[], Row1.nil W, by simp⟩
  · simp only [List.cons.injEq, and_true] at hcs
    subst hcs
    have hlz : l ≤ zs.length := by rw [hz]; split <;> omega
    have hlen : (zs.take l).length = l := by rw [List.length_take]; omega
    have hin : ∀ q ∈ zs.take l, In64 q := fun q hq => by
      have hq' := List.mem_of_mem_take hq
      obtain ⟨i, hi, rfl⟩ := List.getElem_of_mem hq'
      have := hwz _ hq'
      have := bounds_i64 this
      unfold In64; omega
    refine ⟨zs.take l, ⟨some x, c, by rw [intV_len, hlen], by rw [intV_len]; omega, hm, ?_⟩, hin⟩
    by_cases h0 : l = 0
    · left; subst h0; simp [intV]
    · right
      obtain ⟨b, off, sp⟩ := x
      cases sp with
      | none =>
        refine ⟨b, off, rfl, fun i hi => ?_⟩
        rw [intV_len, hlen] at hi
        have := hcell i (by omega)
        rw [add_off] at this
        rw [this, intV_at _ _ (by omega), List.getElem_take]
        simp [show i < zs.length by omega]
      | some q =>
        have g0 := hcell 0 (by omega)
        unfold World.cell? at g0
        simp [Addr.add] at g0
        split at g0 <;> simp_all
theorem kint_in {v : Value} {fuel : Nat} {y : DataW H × List MemPlace} (h : DataW.trod enc Tryz.prog W base spare held fuel 3 [v] = some y) : ∃ n, v = .int .i64 n ∧ In64 n := by
  obtain ⟨n0, q0, _, b0⟩ := DataW.trod_int Tryz.underlying3 h
  simp only [List.cons.injEq, and_true] at q0
  have c0 := bounds_i64 b0
  exact ⟨n0, q0, by unfold In64; omega⟩
theorem kstr_in {v : Value} {fuel : Nat} {y : DataW H × List MemPlace} (h : DataW.trod enc Tryz.prog W base spare held fuel 9 [v] = some y) : ∃ n : ByteArray, v = .string n ∧ n.size ≤ 9223372036854775807 := by
  obtain ⟨n0, q0, _, b0⟩ := DataW.trod_string Tryz.underlying9 h
  simp only [List.cons.injEq, and_true] at q0
  unfold maxLen at b0
  exact ⟨n0, q0, b0⟩
theorem kbool_in {v : Value} {fuel : Nat} {y : DataW H × List MemPlace} (h : DataW.trod enc Tryz.prog W base spare held fuel 4 [v] = some y) : ∃ n : Bool, v = .bool n := by
  obtain ⟨n0, q0, _⟩ := DataW.trod_bool Tryz.underlying4 h
  simp only [List.cons.injEq, and_true] at q0
  exact ⟨n0, q0⟩
theorem kstep_in {cs : List Value} {fuel : Nat} {y : DataW H × List MemPlace} (h : DataW.trod enc Tryz.prog W base spare held fuel 27 cs = some y) :
    ∃ (a : ByteArray) (b c d : Int) (e : Bool) (f g : Int), cs = [.string a, .int .i64 b, .int .i64 c, .int .i64 d, .bool e, .int .i64 f, .int .i64 g] ∧ In64 b ∧ In64 c ∧ In64 d ∧ In64 f ∧ In64 g := by
  obtain ⟨xs, n, hk, hxy, hlen, hxl, hf⟩ := DataW.trod_struct Tryz.underlying27 h
  rw [kb_step] at hlen
  match xs, hxl, cs, hlen with
  | [y0, y1, y2, y3, y4, y5, y6], _, [v0, v1, v2, v3, v4, v5, v6], _ =>
    have g0 := hf 0 _ rfl
    have g1 := hf 1 _ rfl
    have g2 := hf 2 _ rfl
    have g3 := hf 3 _ rfl
    have g4 := hf 4 _ rfl
    have g5 := hf 5 _ rfl
    have g6 := hf 6 _ rfl
    simp [kb_int, kb_str, kb_bool] at g0 g1 g2 g3 g4 g5 g6
    obtain ⟨n0, rfl, _⟩ := kstr_in g0
    obtain ⟨n1, rfl, b1⟩ := kint_in g1
    obtain ⟨n2, rfl, b2⟩ := kint_in g2
    obtain ⟨n3, rfl, b3⟩ := kint_in g3
    obtain ⟨n4, rfl⟩ := kbool_in g4
    obtain ⟨n5, rfl, b5⟩ := kint_in g5
    obtain ⟨n6, rfl, b6⟩ := kint_in g6
    exact ⟨n0, n1, n2, n3, n4, n5, n6, rfl, b1, b2, b3, b5, b6⟩
theorem kspAt_of {x : Addr} {k : Nat} {cs : List Value} {fuel : Nat} {y : DataW H × List MemPlace} (h1 : W.cells? base (x.add (k * 7)) 7 = some cs) (h2 : DataW.trod enc Tryz.prog W base spare held fuel 27 cs = some y) :
    ∃ s : Sp, ∀ j v, (spV s)[j]? = some v → W.cell? (x.add (k * 7 + j)) = some v := by
  obtain ⟨_, hlen, hcell⟩ := World.cells?_some h1
  obtain ⟨a, b, c, d, e, f, g, rfl, _⟩ := kstep_in h2
  refine ⟨⟨a, b, c, d, e, f, g⟩, fun j v hv => ?_⟩
  have hj : j < 7 := by
    have := (List.getElem?_eq_some_iff.1 hv).1
    simpa [spV] using this
  have e1 := hcell j (by omega)
  rw [add_add] at e1
  rw [e1]
  exact hv
theorem sps_of {a : Option Addr} {len cap : Nat} {d : DataW H} {ps : List MemPlace} (h : DataW.Trod enc Tryz.prog W base spare held 28 (.slice a len cap) d ps) : ∃ S, S.length = len ∧ Sps W (.slice a len cap) S := by
  obtain ⟨fuel, hf⟩ := h
  rcases open_slice Tryz.underlying28 hf with ⟨hcs, _⟩ | ⟨x, l, c, m, n, D, Pl, hcs, _, hl, hm, hmm, _, hx⟩
  · simp [Value.cells] at hcs
    obtain ⟨rfl, rfl, rfl⟩ := hcs
    exact ⟨[], rfl, none, 0, rfl, Nat.zero_le _, by decide, Or.inl rfl⟩
  · simp [Value.cells] at hcs
    obtain ⟨rfl, rfl, rfl⟩ := hcs
    have hlm : len ≤ m := by rw [hmm]; split <;> omega
    by_cases h0 : len = 0
    · subst h0
      exact ⟨[], rfl, some x, cap, rfl, Nat.zero_le _, hm, Or.inl rfl⟩
    · have hv : ∀ i, i < len → ∃ s : Sp, ∀ j v, (spV s)[j]? = some v → W.cell? (x.add (i * 7 + j)) = some v := by
        intro i hi
        obtain ⟨cs', h1, h2⟩ := hx i (by omega)
        rw [kb_step] at h1
        exact kspAt_of h1 h2
      haveI : Inhabited Sp := ⟨⟨ByteArray.empty, 0, 0, 0, false, 0, 0⟩⟩
      obtain ⟨z, hz⟩ := choose_lt hv
      obtain ⟨b, off, sp⟩ := x
      cases sp with
      | none =>
        refine ⟨(List.range len).map z, by simp, some ⟨b, off, none⟩, cap, by simp, by simpa using hl, hm, Or.inr ⟨b, off, rfl, fun i hi => ?_⟩⟩
        have hi' : i < len := by simpa using hi
        have g := hz i hi'
        have q : ∀ j v, (spV (z i))[j]? = some v → W.cell? ⟨b, off + i * 7 + j, none⟩ = some v := fun j v hv => by
          have := g j v hv
          rw [add_off, ← Nat.add_assoc] at this
          exact this
        rw [show ((List.range len).map z)[i] = z i by simp]
        exact ⟨q 0 _ rfl, q 1 _ rfl, q 2 _ rfl, q 3 _ rfl, q 4 _ rfl, q 5 _ rfl, q 6 _ rfl⟩
      | some q =>
        have g0 := hz 0 (by omega) 0 _ rfl
        unfold World.cell? at g0
        simp [Addr.add] at g0
        split at g0 <;> simp_all
theorem kblk_in {cs : List Value} {fuel : Nat} {y : DataW H × List MemPlace} (h : DataW.trod enc Tryz.prog W base spare held fuel 80 cs = some y) :
    ∃ s : Bl, cs = blV s ∧ BlFit s ∧ Ints W (.slice s.qa s.qty.length s.qc) s.qty := by
  obtain ⟨xs, n, hk, hxy, hlen, hxl, hf⟩ := DataW.trod_struct Tryz.underlying80 h
  rw [kb_blk] at hlen
  match xs, hxl, cs, hlen with
  | [y0, y1, y2, y3, y4, y5, y6, y7], _, [v0, v1, v2, v3, v4, v5, v6, v7], _ =>
    have g0 := hf 0 _ rfl
    have g1 := hf 1 _ rfl
    have g2 := hf 2 _ rfl
    have g3 := hf 3 _ rfl
    have g4 := hf 4 _ rfl
    have g5 := hf 5 _ rfl
    have g6 := hf 6 _ rfl
    have g7 := hf 7 _ rfl
    simp [kb_int, kb_str, kb_bool, kb_ints] at g0 g1 g2 g3 g4 g5 g6 g7
    obtain ⟨n0, rfl, b0⟩ := kstr_in g0
    obtain ⟨n1, rfl, b1⟩ := kint_in g1
    obtain ⟨n2, rfl, b2⟩ := kint_in g2
    obtain ⟨n3, rfl⟩ := kbool_in g3
    obtain ⟨n4, rfl, b4⟩ := kint_in g4
    obtain ⟨L, hL, _⟩ := kints_in g5
    obtain ⟨qa, qc, rfl, _, _⟩ := hL.slice
    obtain ⟨n6, rfl, b6⟩ := kint_in g6
    obtain ⟨n7, rfl, b7⟩ := kint_in g7
    exact ⟨⟨n0, n1, n2, n3, n4, qa, qc, L, n6, n7⟩, rfl, ⟨by unfold maxLen; exact b0, b1, b6, b7⟩, hL⟩
theorem kblAt_of {x : Addr} {k : Nat} {cs : List Value} {fuel : Nat} {y : DataW H × List MemPlace} (h1 : W.cells? base (x.add (k * 8)) 8 = some cs) (h2 : DataW.trod enc Tryz.prog W base spare held fuel 80 cs = some y) :
    ∃ s : Bl, (∀ j v, (blV s)[j]? = some v → W.cell? (x.add (k * 8 + j)) = some v) ∧ BlFit s ∧ Ints W (.slice s.qa s.qty.length s.qc) s.qty := by
  obtain ⟨_, hlen, hcell⟩ := World.cells?_some h1
  obtain ⟨s, rfl, hfit, hq⟩ := kblk_in h2
  refine ⟨s, fun j v hv => ?_, hfit, hq⟩
  have hj : j < 8 := by
    have := (List.getElem?_eq_some_iff.1 hv).1
    simpa [blV] using this
  have e1 := hcell j (by omega)
  rw [add_add] at e1
  rw [e1]
  exact hv
theorem bks_of {a : Option Addr} {len cap : Nat} {d : DataW H} {ps : List MemPlace} (h : DataW.Trod enc Tryz.prog W base spare held 46 (.slice a len cap) d ps) : ∃ S, S.length = len ∧ Bks W (.slice a len cap) S := by
  obtain ⟨fuel, hf⟩ := h
  rcases open_slice Tryz.underlying46 hf with ⟨hcs, _⟩ | ⟨x, l, c, m, n, D, Pl, hcs, _, hl, hm, hmm, _, hx⟩
  · simp [Value.cells] at hcs
    obtain ⟨rfl, rfl, rfl⟩ := hcs
    exact ⟨[], rfl, none, 0, rfl, Nat.zero_le _, by decide, Or.inl rfl⟩
  · simp [Value.cells] at hcs
    obtain ⟨rfl, rfl, rfl⟩ := hcs
    have hlm : len ≤ m := by rw [hmm]; split <;> omega
    by_cases h0 : len = 0
    · subst h0
      exact ⟨[], rfl, some x, cap, rfl, Nat.zero_le _, hm, Or.inl rfl⟩
    · have hv : ∀ i, i < len → ∃ s : Bl, (∀ j v, (blV s)[j]? = some v → W.cell? (x.add (i * 8 + j)) = some v) ∧ BlFit s ∧ Ints W (.slice s.qa s.qty.length s.qc) s.qty := by
        intro i hi
        obtain ⟨cs', h1, h2⟩ := hx i (by omega)
        rw [kb_blk] at h1
        exact kblAt_of h1 h2
      haveI : Inhabited Bl := ⟨⟨ByteArray.empty, 0, 0, false, 0, none, 0, [], 0, 0⟩⟩
      obtain ⟨z, hz⟩ := choose_lt hv
      obtain ⟨b, off, sp⟩ := x
      cases sp with
      | none =>
        refine ⟨(List.range len).map z, by simp, some ⟨b, off, none⟩, cap, by simp, by simpa using hl, hm, Or.inr ⟨b, off, rfl, fun i hi => ?_⟩⟩
        have hi' : i < len := by simpa using hi
        obtain ⟨g, hfit, hq⟩ := hz i hi'
        have q : ∀ j v, (blV (z i))[j]? = some v → W.cell? ⟨b, off + i * 8 + j, none⟩ = some v := fun j v hv => by
          have := g j v hv
          rw [add_off, ← Nat.add_assoc] at this
          exact this
        rw [show ((List.range len).map z)[i] = z i by simp]
        exact ⟨⟨q 0 _ rfl, q 1 _ rfl, q 2 _ rfl, q 3 _ rfl, q 4 _ rfl, q 5 _ rfl, q 6 _ rfl, q 7 _ rfl⟩, hfit, hq⟩
      | some q =>
        have g0 := (hz 0 (by omega)).1 0 _ rfl
        unfold World.cell? at g0
        simp [Addr.add] at g0
        split at g0 <;> simp_all
theorem bols_of {a : Option Addr} {len cap : Nat} {d : DataW H} {ps : List MemPlace} (h : DataW.Trod enc Tryz.prog W base (fun _ => true) held 41 (.slice a len cap) d ps) : ∃ L, L.length = len ∧ Bols W (.slice a len cap) L := by
  obtain ⟨fuel, hf⟩ := h
  rcases Go.Deep.open_bools Tryz.underlying41 Tryz.underlying4 (by kernel_rfl) hf with ⟨hcs, _⟩ | ⟨x, l, c, B, hcs, _, hl, hm, _, hcell⟩
  · simp [Value.cells] at hcs
    obtain ⟨rfl, rfl, rfl⟩ := hcs
    exact ⟨[], rfl, Row1.nil W⟩
  · simp [Value.cells] at hcs
    obtain ⟨rfl, rfl, rfl⟩ := hcs
    refine ⟨(List.range len).map B, by simp, some x, cap, by rw [bolV_len]; simp, by rw [bolV_len]; simpa using hl, hm, ?_⟩
    by_cases h0 : len = 0
    · left; subst h0; simp [bolV]
    · right
      obtain ⟨b, off, sp⟩ := x
      cases sp with
      | none =>
        refine ⟨b, off, rfl, fun i hi => ?_⟩
        rw [bolV_len] at hi
        have hi' : i < len := by simpa using hi
        have := hcell i (by omega)
        rw [add_off] at this
        rw [this, bolV_at _ _ hi]
        simp
      | some q =>
        have g0 := hcell 0 (by omega)
        unfold World.cell? at g0
        simp [Addr.add] at g0
        split at g0 <;> simp_all
theorem sss_of {a : Option Addr} {len cap : Nat} {d : DataW H} {ps : List MemPlace} (h : DataW.Trod enc Tryz.prog W base spare held 40 (.slice a len cap) d ps) : ∃ P : List (List ByteArray), P.length = len ∧ Sss W (.slice a len cap) P := by
  obtain ⟨fuel, hf⟩ := h
  rcases open_slice Tryz.underlying40 hf with ⟨hcs, _⟩ | ⟨x, l, c, m, n, D, Pl, hcs, _, hl, hm, hmm, _, hx⟩
  · simp [Value.cells] at hcs
    obtain ⟨rfl, rfl, rfl⟩ := hcs
    exact ⟨[], rfl, none, 0, rfl, Nat.zero_le _, by decide, Or.inl rfl⟩
  · simp [Value.cells] at hcs
    obtain ⟨rfl, rfl, rfl⟩ := hcs
    have hlm : len ≤ m := by rw [hmm]; split <;> omega
    by_cases h0 : len = 0
    · subst h0
      exact ⟨[], rfl, some x, cap, rfl, Nat.zero_le _, hm, Or.inl rfl⟩
    · have hv : ∀ i, i < len → ∃ r : Value × List ByteArray, W.cell? (x.add i) = some r.1 ∧ Strs W r.1 r.2 := by
        intro i hi
        obtain ⟨cs', h1, h2⟩ := hx i (by omega)
        rw [kb_strs] at h1
        obtain ⟨_, hlen, hcell⟩ := World.cells?_some h1
        match cs', hlen with
        | [u], _ =>
          obtain ⟨L, hL⟩ := cstrs_in h2
          have e0 := hcell 0 (by simp)
          rw [add_add] at e0
          exact ⟨(u, L), by simpa using e0, hL⟩
      have : Inhabited (Value × List ByteArray) := ⟨(.bool false, [])⟩
      obtain ⟨z, hz⟩ := choose_lt hv
      obtain ⟨b, off, sp⟩ := x
      cases sp with
      | none =>
        refine ⟨(List.range len).map (fun i => (z i).2), by simp, some ⟨b, off, none⟩, cap, by simp, by simpa using hl, hm, Or.inr ⟨b, off, rfl, fun i hi => ?_⟩⟩
        have hi' : i < len := by simpa using hi
        obtain ⟨g, hs⟩ := hz i hi'
        rw [add_off] at g
        exact ⟨(z i).1, g, by simpa using hs⟩
      | some q =>
        obtain ⟨r, g0, _⟩ := hv 0 (by omega)
        unfold World.cell? at g0
        simp [Addr.add] at g0
        split at g0 <;> simp_all
theorem ksps_in {v : Value} {fuel : Nat} {y : DataW H × List MemPlace} (h : DataW.trod enc Tryz.prog W base spare held fuel 28 [v] = some y) : ∃ a c S, v = .slice a S.length c ∧ Sps W v S := by
  obtain ⟨d, ps⟩ := y
  obtain ⟨a, l, c, rfl⟩ : ∃ a l c, v = .slice a l c := by
    rcases open_slice Tryz.underlying28 h with ⟨hcs, _⟩ | ⟨x, l, c, m, n, D, Pl, hcs, _⟩
    · simp only [List.cons.injEq, and_true] at hcs
      exact ⟨_, _, _, hcs⟩
    · simp only [List.cons.injEq, and_true] at hcs
      exact ⟨_, _, _, hcs⟩
  obtain ⟨S, e, hS⟩ := sps_of (a := a) (len := l) (cap := c) ⟨fuel, by simpa [Value.cells] using h⟩
  subst e
  exact ⟨a, c, S, rfl, hS⟩
theorem kbks_in {v : Value} {fuel : Nat} {y : DataW H × List MemPlace} (h : DataW.trod enc Tryz.prog W base spare held fuel 46 [v] = some y) : ∃ a c S, v = .slice a S.length c ∧ Bks W v S := by
  obtain ⟨d, ps⟩ := y
  obtain ⟨a, l, c, rfl⟩ : ∃ a l c, v = .slice a l c := by
    rcases open_slice Tryz.underlying46 h with ⟨hcs, _⟩ | ⟨x, l, c, m, n, D, Pl, hcs, _⟩
    · simp only [List.cons.injEq, and_true] at hcs
      exact ⟨_, _, _, hcs⟩
    · simp only [List.cons.injEq, and_true] at hcs
      exact ⟨_, _, _, hcs⟩
  obtain ⟨S, e, hS⟩ := bks_of (a := a) (len := l) (cap := c) ⟨fuel, by simpa [Value.cells] using h⟩
  subst e
  exact ⟨a, c, S, rfl, hS⟩
theorem kbols_in {v : Value} {fuel : Nat} {y : DataW H × List MemPlace} (h : DataW.trod enc Tryz.prog W base (fun _ => true) held fuel 41 [v] = some y) : ∃ a c S, v = .slice a S.length c ∧ Bols W v S := by
  obtain ⟨d, ps⟩ := y
  obtain ⟨a, l, c, rfl⟩ : ∃ a l c, v = .slice a l c := by
    rcases open_slice Tryz.underlying41 h with ⟨hcs, _⟩ | ⟨x, l, c, m, n, D, Pl, hcs, _⟩
    · simp only [List.cons.injEq, and_true] at hcs
      exact ⟨_, _, _, hcs⟩
    · simp only [List.cons.injEq, and_true] at hcs
      exact ⟨_, _, _, hcs⟩
  obtain ⟨S, e, hS⟩ := bols_of (a := a) (len := l) (cap := c) ⟨fuel, by simpa [Value.cells] using h⟩
  subst e
  exact ⟨a, c, S, rfl, hS⟩
theorem ksss_in {v : Value} {fuel : Nat} {y : DataW H × List MemPlace} (h : DataW.trod enc Tryz.prog W base spare held fuel 40 [v] = some y) : ∃ a c S, v = .slice a S.length c ∧ Sss W v S := by
  obtain ⟨d, ps⟩ := y
  obtain ⟨a, l, c, rfl⟩ : ∃ a l c, v = .slice a l c := by
    rcases open_slice Tryz.underlying40 h with ⟨hcs, _⟩ | ⟨x, l, c, m, n, D, Pl, hcs, _⟩
    · simp only [List.cons.injEq, and_true] at hcs
      exact ⟨_, _, _, hcs⟩
    · simp only [List.cons.injEq, and_true] at hcs
      exact ⟨_, _, _, hcs⟩
  obtain ⟨S, e, hS⟩ := sss_of (a := a) (len := l) (cap := c) ⟨fuel, by simpa [Value.cells] using h⟩
  subst e
  exact ⟨a, c, S, rfl, hS⟩
theorem kstrs_in {v : Value} {fuel : Nat} {y : DataW H × List MemPlace} (h : DataW.trod enc Tryz.prog W base spare held fuel 39 [v] = some y) : ∃ a c S, v = .slice a S.length c ∧ Strs W v S := by
  obtain ⟨L, hL⟩ := cstrs_in h
  obtain ⟨a, c, e, _, _⟩ := hL.slice
  exact ⟨a, c, L, e, hL⟩
/-- A slice that came in has an end: its datum. -/
theorem ulen_of {t e : TypeId} (hu : Tryz.prog.underlying t = some (.slice e)) {a : Option Addr} {len cap : Nat} {d : DataW H} {ps : List MemPlace} (h : DataW.Trod enc Tryz.prog W base spare true t (.slice a len cap) d ps) {ts : List TypeId} {ds : List (DataW H)} {j : Nat} (ht : ts[j]? = some t) (hd : ds[j]? = some d) (hs : (DataW.weightsEach Tryz.prog ts ds).all (· ≤ reachBytes) = true) : len * Tryz.prog.bytesOf e ≤ 140737488351232 := by
  obtain ⟨fuel, hf⟩ := h
  rcases open_slice hu hf with ⟨hcs, _⟩ | ⟨x, l, c, m, n, D, Pl, hcs, hy, hl, hm, hmm, hdd, hx⟩
  · simp [Value.cells] at hcs
    obtain ⟨rfl, rfl, rfl⟩ := hcs
    simp
  · simp [Value.cells] at hcs
    obtain ⟨rfl, rfl, rfl⟩ := hcs
    simp only [Prod.mk.injEq] at hdd
    have := sized_slice hs ht (hd.trans (congrArg some hdd.1)) hu
    simp only [List.length_map, List.length_range, reachBytes] at this
    exact Nat.le_trans (Nat.mul_le_mul_right _ (Nat.le_add_right _ _)) this
theorem w_struct {ts : List TypeId} {ds : List (DataW H)} (h : (DataW.weightsEach Tryz.prog ts ds).all (· ≤ reachBytes) = true) {j : Nat} {t : TypeId} {fs : Array Field} {parts : List (DataW H)} (ht : ts[j]? = some t) (hd : ds[j]? = some (.agg parts)) (hu : Tryz.prog.underlying t = some (.struct fs)) : (DataW.weightsEach Tryz.prog (fs.toList.map (·.type)) parts).all (· ≤ reachBytes) = true := by
  refine List.all_eq_true.2 fun n hn => List.all_eq_true.1 h n (DataW.weights_mem_each ht hd n ?_)
  simp only [DataW.weights, hu]
  exact hn
theorem case17_len {g : Gr} {la sa ba aa xa fa : Option Addr} {lc sl sc bl bc al ac xl xc fl fc : Nat} {d : DataW H} {ps : List MemPlace}
    (h : DataW.Trod enc Tryz.prog W base spare true 55 (.agg #[.int .i64 g.zones, .int .i64 g.hours, .slice la g.lines.length lc, .int .i64 g.low, .int .i64 g.high, .slice sa sl sc, .slice ba bl bc, .slice aa al ac, .slice xa xl xc, .slice fa fl fc]) d ps)
    {ts : List TypeId} {ds : List (DataW H)} {j : Nat} (ht : ts[j]? = some 55) (hd : ds[j]? = some d) (hs : (DataW.weightsEach Tryz.prog ts ds).all (· ≤ reachBytes) = true) :
    g.lines.length ≤ 140737488351232 ∧ al ≤ 140737488351232 := by
  obtain ⟨fuel, hf⟩ := h
  obtain ⟨xs, n, hk, hxy, hlen, hxl, hfl⟩ := DataW.trod_struct Tryz.underlying55 hf
  simp only [Prod.mk.injEq] at hxy
  obtain ⟨rfl, -⟩ := hxy
  have hw := w_struct hs ht hd Tryz.underlying55
  match xs, hxl with
  | [y0, y1, y2, y3, y4, y5], _ =>
    have g0 := hfl 0 _ rfl
    have g3 := hfl 3 _ rfl
    simp [kb_grid, kb_bools, Value.cells] at g0 g3
    have l3 := ulen_of Tryz.underlying41 (d := y3.1) (ps := y3.2) ⟨n, by simpa [Value.cells] using g3⟩ (j := 3) rfl rfl hw
    rw [show Tryz.prog.bytesOf 4 = 1 by kernel_rfl] at l3
    obtain ⟨xs0, n0, hk0, hxy0, hlen0, hxl0, hfl0⟩ := DataW.trod_struct Tryz.underlying25 g0
    have hw0 := w_struct (j := 0) (parts := xs0.map (·.1)) hw rfl (by rw [hxy0]; rfl) Tryz.underlying25
    revert hfl0 hw0
    match xs0, hxl0 with
    | [p0, p1, p2, p3, p4], _ =>
      intro hfl0 hw0
      have k2 := hfl0 2 _ rfl
      simp [ic_lines] at k2
      have l2 := ulen_of Tryz.underlying23 (d := p2.1) (ps := p2.2) ⟨n0, by simpa [Value.cells] using k2⟩ (j := 2) rfl rfl hw0
      rw [show Tryz.prog.bytesOf 143 = 24 by kernel_rfl] at l2
      exact ⟨by omega, by omega⟩
end
section
variable {H : Type} {enc : TypeId × Value → H} {W : World} {base : Nat} {held : Bool}
theorem case17_in {cs : List Value} {fuel : Nat} {y : DataW H × List MemPlace} (h : DataW.trod enc Tryz.prog W base (fun _ => true) held fuel 55 cs = some y) :
    ∃ (g : Gr) (la : Option Addr) (lc : Nat) (sa : Option Addr) (sc : Nat) (S : List Sp) (ba : Option Addr) (bc : Nat) (B : List Bl) (aa : Option Addr) (ac : Nat) (A : List Bool) (xa : Option Addr) (xc : Nat) (X : List ByteArray) (fa : Option Addr) (fc : Nat) (F : List (List ByteArray)),
      cs = [.int .i64 g.zones, .int .i64 g.hours, .slice la g.lines.length lc, .int .i64 g.low, .int .i64 g.high, .slice sa S.length sc, .slice ba B.length bc, .slice aa A.length ac, .slice xa X.length xc, .slice fa F.length fc] ∧
      Lns W (.slice la g.lines.length lc) g.lines ∧ Sps W (.slice sa S.length sc) S ∧ Bks W (.slice ba B.length bc) B ∧ Bols W (.slice aa A.length ac) A ∧ Strs W (.slice xa X.length xc) X ∧ Sss W (.slice fa F.length fc) F := by
  obtain ⟨xs, n, hk, hxy, hlen, hxl, hf⟩ := DataW.trod_struct Tryz.underlying55 h
  rw [show Tryz.prog.cellsOf 55 = 10 by kernel_rfl] at hlen
  match xs, hxl, cs, hlen with
  | [y0, y1, y2, y3, y4, y5], _, [v0, v1, v2, v3, v4, v5, v6, v7, v8, v9], _ =>
    have g0 := hf 0 _ rfl
    have g1 := hf 1 _ rfl
    have g2 := hf 2 _ rfl
    have g3 := hf 3 _ rfl
    have g4 := hf 4 _ rfl
    have g5 := hf 5 _ rfl
    simp [kb_grid, kb_steps, kb_blocks, kb_bools, kb_strs, kb_sss] at g0 g1 g2 g3 g4 g5
    obtain ⟨g, la, lc, e0, w0⟩ := igrid_in g0
    simp only [List.cons.injEq, and_true] at e0
    obtain ⟨rfl, rfl, rfl, rfl, rfl⟩ := e0
    obtain ⟨sa, sc, S, rfl, w1⟩ := ksps_in g1
    obtain ⟨ba, bc, B, rfl, w2⟩ := kbks_in g2
    obtain ⟨aa, ac, A, rfl, w3⟩ := kbols_in g3
    obtain ⟨xa, xc, X, rfl, w4⟩ := kstrs_in g4
    obtain ⟨fa, fc, F, rfl, w5⟩ := ksss_in g5
    exact ⟨g, la, lc, sa, sc, S, ba, bc, B, aa, ac, A, xa, xc, X, fa, fc, F, rfl, w0, w1, w2, w3, w4, w5⟩
theorem case17_of {v : Value} {d : DataW H} {ps : List MemPlace} {r0 : Reach} {b0 : Nat} (hv : Value.okWide Tryz.prog W r0 b0 55 v) (h : DataW.Trod enc Tryz.prog W base (fun _ => true) held 55 v d ps) :
    ∃ (g : Gr) (la : Option Addr) (lc : Nat) (sa : Option Addr) (sc : Nat) (S : List Sp) (ba : Option Addr) (bc : Nat) (B : List Bl) (aa : Option Addr) (ac : Nat) (A : List Bool) (xa : Option Addr) (xc : Nat) (X : List ByteArray) (fa : Option Addr) (fc : Nat) (F : List (List ByteArray)),
      v = .agg #[.int .i64 g.zones, .int .i64 g.hours, .slice la g.lines.length lc, .int .i64 g.low, .int .i64 g.high, .slice sa S.length sc, .slice ba B.length bc, .slice aa A.length ac, .slice xa X.length xc, .slice fa F.length fc] ∧
      Lns W (.slice la g.lines.length lc) g.lines ∧ Sps W (.slice sa S.length sc) S ∧ Bks W (.slice ba B.length bc) B ∧ Bols W (.slice aa A.length ac) A ∧ Strs W (.slice xa X.length xc) X ∧ Sss W (.slice fa F.length fc) F := by
  obtain ⟨cs, rfl, hsz⟩ := WideShapes.okWide_struct Tryz.underlying55 hv
  obtain ⟨fuel, hf⟩ := h
  obtain ⟨g, la, lc, sa, sc, S, ba, bc, B, aa, ac, A, xa, xc, X, fa, fc, F, hcs, h1⟩ := case17_in hf
  refine ⟨g, la, lc, sa, sc, S, ba, bc, B, aa, ac, A, xa, xc, X, fa, fc, F, ?_, h1⟩
  congr 1
  have : cs.toList = [.int .i64 g.zones, .int .i64 g.hours, .slice la g.lines.length lc, .int .i64 g.low, .int .i64 g.high, .slice sa S.length sc, .slice ba B.length bc, .slice aa A.length ac, .slice xa X.length xc, .slice fa F.length fc] := by simpa [Value.cells] using hcs
  cases cs; simp_all
end
end Go.Proofs.YtcdkoadobdgbhaaGreatDoor
