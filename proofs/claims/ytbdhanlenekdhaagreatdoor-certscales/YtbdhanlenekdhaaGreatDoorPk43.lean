/- COpen, CPack. -/
import Derived.Test.YtbdhanlenekdhaaGreatDoorPk34
import Derived.Test.YtbdhanlenekdhaaGreatDoorPk14
import Derived.Deep.Slices
import Derived.ProofKit
import Derived.OpenShut
import Derived.ChangeSame
import Derived.ChangeArms
import Derived.Test.YtbdhanlenekdhaaGreatDoorPk40
import Derived.Test.YtbdhanlenekdhaaGreatDoorPk42
/- cert: a problem, and texts, that came in; the table of relations. -/
namespace Go.Proofs.YtbdhanlenekdhaaGreatDoor
open Go.RowKit Go.Deep
set_option linter.unusedVariables false
set_option maxRecDepth 100000
set_option linter.unusedSimpArgs false

theorem c_int : Tryz.prog.cellsOf 3 = 1 := by kernel_rfl
theorem c_ints : Tryz.prog.cellsOf 23 = 1 := by kernel_rfl
theorem c_intss : Tryz.prog.cellsOf 22 = 1 := by kernel_rfl
theorem c_prb : Tryz.prog.cellsOf 25 = 4 := by kernel_rfl
theorem c_bool : Tryz.prog.cellsOf 4 = 1 := by kernel_rfl
theorem c_a3b : Tryz.prog.cellsOf 98 = 3 := by kernel_rfl
theorem c_relation : Tryz.prog.cellsOf 100 = 6 := by kernel_rfl
theorem c_arel : Tryz.prog.cellsOf 101 = 18 := by kernel_rfl
section
variable {H : Type} {enc : TypeId × Value → H} {W : World} {base : Nat} {spare : Nat → Bool} {held : Bool}
theorem cints_in {v : Value} {fuel : Nat} {y : DataW H × List MemPlace} (h : DataW.trod enc Tryz.prog W base spare held fuel 23 [v] = some y) : ∃ L, Ints W v L := by
  rcases ChangeShapes.open_ints Tryz.underlying23 Tryz.underlying3 (by kernel_rfl) h with ⟨hcs, _⟩ | ⟨x, l, c, zs, hcs, _, hl, hm, hz, _, hcell, hwz⟩
  · simp only [List.cons.injEq, and_true] at hcs
    subst hcs
    exact ⟨[], Row1.nil W⟩
  · simp only [List.cons.injEq, and_true] at hcs
    subst hcs
    have hlz : l ≤ zs.length := by rw [hz]; split <;> omega
    have hlen : (intV (zs.take l)).length = l := by rw [intV_len, List.length_take]; omega
    refine ⟨zs.take l, some x, c, by rw [hlen], by omega, hm, ?_⟩
    by_cases h0 : l = 0
    · exact Or.inl (by rw [h0]; simp [intV])
    · obtain ⟨b, off, sp⟩ := x
      cases sp with
      | none =>
        refine Or.inr ⟨b, off, rfl, fun i hi => ?_⟩
        rw [hlen] at hi
        have h1 := hcell i (by omega)
        rw [add_off] at h1
        rw [h1, intV_at _ _ (by rw [List.length_take]; omega), List.getElem_take]
        simp [List.getD_eq_getElem?_getD, List.getElem?_eq_getElem (show i < zs.length by omega)]
      | some q =>
        have g0 := hcell 0 (by omega)
        unfold World.cell? at g0
        simp [Addr.add] at g0
        split at g0 <;> simp_all
theorem cstrs_in {v : Value} {fuel : Nat} {y : DataW H × List MemPlace} (h : DataW.trod enc Tryz.prog W base spare held fuel 26 [v] = some y) : ∃ L, Strs W v L := by
  rcases ChangeShapes.open_strings Tryz.underlying26 Tryz.underlying9 (by kernel_rfl) h with ⟨hcs, _⟩ | ⟨x, l, c, zs, hcs, _, hl, hm, hz, _, hcell, hwz⟩
  · simp only [List.cons.injEq, and_true] at hcs
    subst hcs
    exact ⟨[], Strs.nil W⟩
  · simp only [List.cons.injEq, and_true] at hcs
    subst hcs
    have hlz : l ≤ zs.length := by rw [hz]; split <;> omega
    have hlen : (strV (zs.take l)).length = l := by rw [strV_len, List.length_take]; omega
    refine ⟨zs.take l, ⟨some x, c, by rw [hlen], by omega, hm, ?_⟩, fun z hz => hwz z (List.mem_of_mem_take hz)⟩
    by_cases h0 : l = 0
    · exact Or.inl (by rw [h0]; simp [strV])
    · obtain ⟨b, off, sp⟩ := x
      cases sp with
      | none =>
        refine Or.inr ⟨b, off, rfl, fun i hi => ?_⟩
        rw [hlen] at hi
        have h1 := hcell i (by omega)
        rw [add_off] at h1
        rw [h1, strV_at _ _ (by rw [List.length_take]; omega), List.getElem_take]
        simp [List.getD_eq_getElem?_getD, List.getElem?_eq_getElem (show i < zs.length by omega)]
      | some q =>
        have g0 := hcell 0 (by omega)
        unfold World.cell? at g0
        simp [Addr.add] at g0
        split at g0 <;> simp_all
theorem crows_in {v : Value} {fuel : Nat} {y : DataW H × List MemPlace} (h : DataW.trod enc Tryz.prog W base spare held fuel 22 [v] = some y) : ∃ M, IntRows W v M := by
  rcases open_slice Tryz.underlying22 h with ⟨hcs, _⟩ | ⟨x, l, c, m, n, D, Pl, hcs, _, hl, hm, hmm, _, hx⟩
  · simp only [List.cons.injEq, and_true] at hcs
    subst hcs
    exact ⟨[], [], Row1.nil W, rfl, fun i h1 => by simp at h1⟩
  · simp only [List.cons.injEq, and_true] at hcs
    subst hcs
    have hlm : l ≤ m := by rw [hmm]; split <;> omega
    have hv : ∀ i, i < l → ∃ r : Value × List Int, W.cell? (x.add i) = some r.1 ∧ Ints W r.1 r.2 := by
      intro i hi
      obtain ⟨cs', h1, h2⟩ := hx i (by omega)
      rw [c_ints] at h1
      obtain ⟨_, hlen, hcell⟩ := World.cells?_some h1
      match cs', hlen with
      | [u], _ =>
        obtain ⟨L, hL⟩ := cints_in h2
        have e0 := hcell 0 (by simp)
        rw [add_add] at e0
        exact ⟨(u, L), by simpa using e0, hL⟩
    by_cases h0 : l = 0
    · subst h0
      exact ⟨[], [], ⟨some x, c, rfl, Nat.zero_le _, hm, Or.inl rfl⟩, rfl, fun i h1 => by simp at h1⟩
    · obtain ⟨b, off, sp⟩ := x
      cases sp with
      | none =>
        have : Inhabited (Value × List Int) := ⟨(.bool false, [])⟩
        obtain ⟨z, hz⟩ := choose_lt hv
        refine ⟨(List.range l).map (fun i => (z i).2), (List.range l).map (fun i => (z i).1), ⟨some ⟨b, off, none⟩, c, by simp, by simpa using hl, hm, Or.inr ⟨b, off, rfl, fun i hi => ?_⟩⟩, by simp, fun i h1 h2 => ?_⟩
        · have hi' : i < l := by simpa using hi
          have g := (hz i hi').1
          rw [add_off] at g
          simpa using g
        · have hi' : i < l := by simpa using h1
          simpa using (hz i hi').2
      | some q =>
        obtain ⟨r, g0, _⟩ := hv 0 (by omega)
        unfold World.cell? at g0
        simp [Addr.add] at g0
        split at g0 <;> simp_all
theorem prb_in {cs : List Value} {fuel : Nat} {y : DataW H × List MemPlace} (h : DataW.trod enc Tryz.prog W base spare held fuel 25 cs = some y) : ∃ (P : Prb) (rv ev bv cv : Value), cs = [rv, ev, bv, cv] ∧ IsPrb W rv ev bv cv P := by
  obtain ⟨xs, n, hk, hxy, hlen, hxl, hf⟩ := DataW.trod_struct Tryz.underlying25 h
  rw [c_prb] at hlen
  match xs, hxl, cs, hlen with
  | [y0, y1, y2, y3], _, [v0, v1, v2, v3], _ =>
    have g0 := hf 0 _ rfl
    have g1 := hf 1 _ rfl
    have g2 := hf 2 _ rfl
    have g3 := hf 3 _ rfl
    simp [c_intss, c_ints] at g0 g1 g2 g3
    obtain ⟨M, hM⟩ := crows_in g0
    obtain ⟨E, hE⟩ := cints_in g1
    obtain ⟨B, hB⟩ := cints_in g2
    obtain ⟨C, hC⟩ := cints_in g3
    exact ⟨⟨M, E, B, C⟩, v0, v1, v2, v3, rfl, ⟨hM, hE, hB, hC⟩⟩
theorem prb_of {v : Value} {d : DataW H} {ps : List MemPlace} {r0 : Reach} {b0 : Nat} (hv : Value.okWide Tryz.prog W r0 b0 25 v) (h : DataW.Trod enc Tryz.prog W base spare held 25 v d ps) : ∃ (P : Prb) (rv ev bv cv : Value), v = .agg #[rv, ev, bv, cv] ∧ IsPrb W rv ev bv cv P := by
  obtain ⟨cs, rfl, hsz⟩ := WideShapes.okWide_struct Tryz.underlying25 hv
  obtain ⟨fuel, hf⟩ := h
  obtain ⟨P, rv, ev, bv, cv, hcs, hI⟩ := prb_in hf
  refine ⟨P, rv, ev, bv, cv, ?_, hI⟩
  congr 1
  have : cs.toList = [rv, ev, bv, cv] := by simpa [Value.cells] using hcs
  cases cs; simp_all
theorem strs_of {a : Option Addr} {len cap : Nat} {d : DataW H} {ps : List MemPlace} (h : DataW.Trod enc Tryz.prog W base spare held 26 (.slice a len cap) d ps) : ∃ L : List ByteArray, Strs W (.slice a len cap) L := by
  obtain ⟨fuel, hf⟩ := h
  exact cstrs_in (v := .slice a len cap) (by simpa [Value.cells] using hf)
theorem arr3b {cs : List Value} {fuel : Nat} {x0 x1 x2 : Bool} {p : List MemPlace} (h : DataW.trod enc Tryz.prog W base spare held fuel 98 cs = some (.agg [.lit (.bool x0), .lit (.bool x1), .lit (.bool x2)], p)) : cs = [.bool x0, .bool x1, .bool x2] := by
  obtain ⟨xs, m, _, hx, hl, hxl, hf⟩ := DataW.trod_array Tryz.underlying98 h
  rw [c_a3b] at hl
  match xs, hxl, cs, hl with
  | [y0, y1, y2], _, [v0, v1, v2], _ =>
    have g0 := hf 0 (by omega)
    have g1 := hf 1 (by omega)
    have g2 := hf 2 (by omega)
    simp [c_bool] at g0 g1 g2
    obtain ⟨b0, e0, rfl⟩ := DataW.trod_bool Tryz.underlying4 g0
    obtain ⟨b1, e1, rfl⟩ := DataW.trod_bool Tryz.underlying4 g1
    obtain ⟨b2, e2, rfl⟩ := DataW.trod_bool Tryz.underlying4 g2
    simp at hx e0 e1 e2
    obtain ⟨⟨rfl, rfl, rfl⟩, _⟩ := hx
    subst e0 e1 e2
    rfl
theorem rel6 {cs : List Value} {fuel : Nat} {x0 x1 x2 x3 x4 x5 : Bool} {p : List MemPlace} (h : DataW.trod enc Tryz.prog W base spare held fuel 100 cs = some (.agg [.agg [.lit (.bool x0), .lit (.bool x1), .lit (.bool x2)], .agg [.lit (.bool x3), .lit (.bool x4), .lit (.bool x5)]], p)) : cs = [.bool x0, .bool x1, .bool x2, .bool x3, .bool x4, .bool x5] := by
  obtain ⟨xs, m, _, hx, hl, hxl, hf⟩ := DataW.trod_struct Tryz.underlying100 h
  rw [c_relation] at hl
  match xs, hxl, cs, hl with
  | [y0, y1], _, [v0, v1, v2, v3, v4, v5], _ =>
    have g0 := hf 0 _ rfl
    have g1 := hf 1 _ rfl
    simp [c_a3b] at g0 g1
    obtain ⟨y0a, y0b⟩ := y0
    obtain ⟨y1a, y1b⟩ := y1
    simp at hx
    obtain ⟨⟨rfl, rfl⟩, _⟩ := hx
    have e0 := arr3b g0
    have e1 := arr3b g1
    simp at e0 e1
    obtain ⟨rfl, rfl, rfl⟩ := e0
    obtain ⟨rfl, rfl, rfl⟩ := e1
    rfl
theorem rel18 {cs : List Value} {fuel : Nat} {p : List MemPlace} (h : DataW.trod enc Tryz.prog W base spare held fuel 101 cs = some (Rows.laid_noonbell_cert_relations, p)) :
    cs = [.bool true, .bool true, .bool false, .bool false, .bool true, .bool true, .bool false, .bool true, .bool false, .bool true, .bool true, .bool true, .bool false, .bool true, .bool true, .bool true, .bool true, .bool false] := by
  obtain ⟨xs, m, _, hx, hl, hxl, hf⟩ := DataW.trod_array Tryz.underlying101 h
  rw [c_arel] at hl
  match xs, hxl, cs, hl with
  | [y0, y1, y2], _, [v0, v1, v2, v3, v4, v5, v6, v7, v8, v9, va, vb, vc, vd, ve, vf, vg, vh], _ =>
    have g0 := hf 0 (by omega)
    have g1 := hf 1 (by omega)
    have g2 := hf 2 (by omega)
    simp [c_relation] at g0 g1 g2
    obtain ⟨y0a, y0b⟩ := y0
    obtain ⟨y1a, y1b⟩ := y1
    obtain ⟨y2a, y2b⟩ := y2
    simp [Rows.laid_noonbell_cert_relations] at hx
    obtain ⟨⟨rfl, rfl, rfl⟩, _⟩ := hx
    have e0 := rel6 g0
    have e1 := rel6 g1
    have e2 := rel6 g2
    simp at e0 e1 e2
    obtain ⟨rfl, rfl, rfl, rfl, rfl, rfl⟩ := e0
    obtain ⟨rfl, rfl, rfl, rfl, rfl, rfl⟩ := e1
    obtain ⟨rfl, rfl, rfl, rfl, rfl, rfl⟩ := e2
    rfl
end
theorem rl_of {W : World} {t : TypeId} {fz : Nat × Nat} (h : W.heap[0]? = some (.cells #[.bool true, .bool true, .bool false, .bool false, .bool true, .bool true, .bool false, .bool true, .bool false, .bool true, .bool true, .bool true, .bool false, .bool true, .bool true, .bool true, .bool true, .bool false] t fz)) : Rl W := by
  constructor
  · intro a b ha hb
    refine bxc h _ _ ?_
    have hA : a = 0 ∨ a = 1 ∨ a = 2 := by omega
    have hB : b = 0 ∨ b = 1 ∨ b = 2 := by omega
    rcases hA with rfl | rfl | rfl <;> rcases hB with rfl | rfl | rfl <;> rfl
  · intro a b ha hb
    refine bxc h _ _ ?_
    have hA : a = 0 ∨ a = 1 ∨ a = 2 := by omega
    have hB : b = 0 ∨ b = 1 ∨ b = 2 := by omega
    rcases hA with rfl | rfl | rfl <;> rcases hB with rfl | rfl | rfl <;> rfl
end Go.Proofs.YtbdhanlenekdhaaGreatDoor
/- cert: what all the laws stand on. -/
namespace Go.Proofs.YtbdhanlenekdhaaGreatDoor
theorem cpack_here : True := trivial
end Go.Proofs.YtbdhanlenekdhaaGreatDoor
