/- tableau: what came in. -/
import Derived.Test.YtgojlegknlalpaaGreatDoorPk15
import Derived.Test.YtgojlegknlalpaaGreatDoorPk36
import Derived.Deep.Slices
import Derived.ProofKit
import Derived.OpenShut
import Derived.ChangeSame
import Derived.ChangeArms
import Derived.SizedLaws
namespace Go.Proofs.YtgojlegknlalpaaGreatDoor
open Go.RowKit Go.Deep
set_option linter.unusedVariables false
set_option maxRecDepth 100000
set_option linter.unusedSimpArgs false

theorem c_int : Tryz.prog.cellsOf 3 = 1 := by kernel_rfl
theorem c_ints : Tryz.prog.cellsOf 23 = 1 := by kernel_rfl
theorem c_step : Tryz.prog.cellsOf 35 = 2 := by kernel_rfl
theorem b_step : Tryz.prog.bytesOf 35 = 16 := by kernel_rfl
theorem b_int : Tryz.prog.bytesOf 3 = 8 := by kernel_rfl
theorem b_ints : Tryz.prog.bytesOf 23 = 24 := by kernel_rfl
section
variable {H : Type} {enc : TypeId × Value → H} {W : World} {base : Nat} {spare : Nat → Bool} {held : Bool}
theorem cints_in {v : Value} {fuel : Nat} {y : DataW H × List MemPlace} (h : DataW.trod enc Tryz.prog W base spare held fuel 23 [v] = some y) : ∃ L, Ints W v L := by
  rcases ChangeShapes.open_ints Tryz.underlying23 Tryz.underlying3 (by kernel_rfl) h with ⟨hcs, _⟩ | ⟨x, l, c, zs, hcs, _, hl, hm, hz, _, hcell, hwz⟩
  · simp only [List.cons.injEq, and_true] at hcs
    subst hcs
    exact ⟨[], Row1.nil W⟩
  · simp only [List.cons.injEq, and_true] at hcs
    subst hcs
    have hlz : l ≤ zs.length := by rw [hz]; split <;> omega
    have hlen : (intV (zs.take l)).length = l := by rw [intV_len, List.length_take]; omega
    refine ⟨zs.take l, some x, c, by rw [hlen], by omega, hm, ?_⟩
    by_cases h0 : l = 0
    · exact Or.inl (by rw [h0]; simp [intV])
    · obtain ⟨b, off, sp⟩ := x
      cases sp with
      | none =>
        refine Or.inr ⟨b, off, rfl, fun i hi => ?_⟩
        rw [hlen] at hi
        have h1 := hcell i (by omega)
        rw [add_off] at h1
        rw [h1, intV_at _ _ (by rw [List.length_take]; omega), List.getElem_take]
        simp [List.getD_eq_getElem?_getD, List.getElem?_eq_getElem (show i < zs.length by omega)]
      | some q =>
        have g0 := hcell 0 (by omega)
        unfold World.cell? at g0
        simp [Addr.add] at g0
        split at g0 <;> simp_all
theorem crows_in {v : Value} {fuel : Nat} {y : DataW H × List MemPlace} (h : DataW.trod enc Tryz.prog W base spare held fuel 22 [v] = some y) : ∃ M, IntRows W v M := by
  rcases open_slice Tryz.underlying22 h with ⟨hcs, _⟩ | ⟨x, l, c, m, n, D, Pl, hcs, _, hl, hm, hmm, _, hx⟩
  · simp only [List.cons.injEq, and_true] at hcs
    subst hcs
    exact ⟨[], [], Row1.nil W, rfl, fun i h1 => by simp at h1⟩
  · simp only [List.cons.injEq, and_true] at hcs
    subst hcs
    have hlm : l ≤ m := by rw [hmm]; split <;> omega
    have hv : ∀ i, i < l → ∃ r : Value × List Int, W.cell? (x.add i) = some r.1 ∧ Ints W r.1 r.2 := by
      intro i hi
      obtain ⟨cs', h1, h2⟩ := hx i (by omega)
      rw [c_ints] at h1
      obtain ⟨_, hlen, hcell⟩ := World.cells?_some h1
      match cs', hlen with
      | [u], _ =>
        obtain ⟨L, hL⟩ := cints_in h2
        have e0 := hcell 0 (by simp)
        rw [add_add] at e0
        exact ⟨(u, L), by simpa using e0, hL⟩
    by_cases h0 : l = 0
    · subst h0
      exact ⟨[], [], ⟨some x, c, rfl, Nat.zero_le _, hm, Or.inl rfl⟩, rfl, fun i h1 => by simp at h1⟩
    · obtain ⟨b, off, sp⟩ := x
      cases sp with
      | none =>
        have : Inhabited (Value × List Int) := ⟨(.bool false, [])⟩
        obtain ⟨z, hz⟩ := choose_lt hv
        refine ⟨(List.range l).map (fun i => (z i).2), (List.range l).map (fun i => (z i).1), ⟨some ⟨b, off, none⟩, c, by simp, by simpa using hl, hm, Or.inr ⟨b, off, rfl, fun i hi => ?_⟩⟩, by simp, fun i h1 h2 => ?_⟩
        · have hi' : i < l := by simpa using hi
          have g := (hz i hi').1
          rw [add_off] at g
          simpa using g
        · have hi' : i < l := by simpa using h1
          simpa using (hz i hi').2
      | some q =>
        obtain ⟨r, g0, _⟩ := hv 0 (by omega)
        unfold World.cell? at g0
        simp [Addr.add] at g0
        split at g0 <;> simp_all
theorem ustep_of {x : Addr} {k : Nat} {cs : List Value} {fuel : Nat} {y : DataW H × List MemPlace} (h1 : W.cells? base (x.add (k * 2)) 2 = some cs) (h2 : DataW.trod enc Tryz.prog W base spare held fuel 35 cs = some y) :
    ∃ v : Int × Int, W.cell? (x.add (k * 2)) = some (.int .i64 v.1) ∧ W.cell? (x.add (k * 2 + 1)) = some (.int .i64 v.2) := by
  obtain ⟨_, hlen, hcell⟩ := World.cells?_some h1
  obtain ⟨xs, n, hk, hxy, _, hxl, hf⟩ := DataW.trod_struct Tryz.underlying35 h2
  match xs, hxl, cs, hlen with
  | [y0, y1], _, [v0, v1], _ =>
    have g0 := hf 0 _ rfl
    have g1 := hf 1 _ rfl
    simp [c_int] at g0 g1
    have e0 := hcell 0 (by omega)
    have e1 := hcell 1 (by omega)
    rw [add_add] at e0 e1
    obtain ⟨n0, q0, _, b0⟩ := DataW.trod_int Tryz.underlying3 g0
    obtain ⟨n1, q1, _, b1⟩ := DataW.trod_int Tryz.underlying3 g1
    simp only [List.cons.injEq, and_true] at q0 q1
    subst q0 q1
    exact ⟨(n0, n1), by simpa using e0, by simpa using e1⟩
theorem ustps_of {a : Option Addr} {len cap : Nat} {d : DataW H} {ps : List MemPlace} (h : DataW.Trod enc Tryz.prog W base spare held 24 (.slice a len cap) d ps) : ∃ L : List (Int × Int), UStp W (.slice a len cap) L := by
  obtain ⟨fuel, hf⟩ := h
  rcases open_slice Tryz.underlying24 hf with ⟨hcs, _⟩ | ⟨x, l, c, m, n, D, Pl, hcs, _, hl, hm, hmm, _, hx⟩
  · simp [Value.cells] at hcs
    obtain ⟨rfl, rfl, rfl⟩ := hcs
    exact ⟨[], none, 0, rfl, Nat.zero_le _, by decide, Or.inl rfl⟩
  · simp [Value.cells] at hcs
    obtain ⟨rfl, rfl, rfl⟩ := hcs
    have hlm : len ≤ m := by rw [hmm]; split <;> omega
    by_cases h0 : len = 0
    · subst h0
      exact ⟨[], some x, cap, rfl, Nat.zero_le _, hm, Or.inl rfl⟩
    · have hv : ∀ i, i < len → ∃ v : Int × Int, W.cell? (x.add (i * 2)) = some (.int .i64 v.1) ∧ W.cell? (x.add (i * 2 + 1)) = some (.int .i64 v.2) := by
        intro i hi
        obtain ⟨cs', h1, h2⟩ := hx i (by omega)
        rw [c_step] at h1
        exact ustep_of h1 h2
      obtain ⟨z, hz⟩ := choose_lt hv
      obtain ⟨b, off, sp⟩ := x
      cases sp with
      | none =>
        refine ⟨(List.range len).map z, some ⟨b, off, none⟩, cap, by simp, by simpa using hl, hm, Or.inr ⟨b, off, rfl, fun i hi => ?_⟩⟩
        have hi' : i < len := by simpa using hi
        obtain ⟨g0, g1⟩ := hz i hi'
        rw [add_off] at g0 g1
        exact ⟨by simpa using g0, by rw [Nat.add_assoc]; simpa using g1⟩
      | some q =>
        have g0 := (hz 0 (by omega)).1
        unfold World.cell? at g0
        simp [Addr.add] at g0
        split at g0 <;> simp_all
theorem uints_of {a : Option Addr} {len cap : Nat} {d : DataW H} {ps : List MemPlace} (h : DataW.Trod enc Tryz.prog W base spare held 23 (.slice a len cap) d ps) : ∃ L : List Int, Ints W (.slice a len cap) L := by
  obtain ⟨fuel, hf⟩ := h
  exact cints_in hf
theorem urows_of {a : Option Addr} {len cap : Nat} {d : DataW H} {ps : List MemPlace} (h : DataW.Trod enc Tryz.prog W base spare held 22 (.slice a len cap) d ps) : ∃ M : List (List Int), IntRows W (.slice a len cap) M := by
  obtain ⟨fuel, hf⟩ := h
  exact crows_in hf
/-- A slice that came in has an end: its datum. -/
theorem ulen_of {t e : TypeId} (hu : Tryz.prog.underlying t = some (.slice e)) {a : Option Addr} {len cap : Nat} {d : DataW H} {ps : List MemPlace} (h : DataW.Trod enc Tryz.prog W base spare true t (.slice a len cap) d ps) {ts : List TypeId} {ds : List (DataW H)} {j : Nat} (ht : ts[j]? = some t) (hd : ds[j]? = some d) (hs : (DataW.weightsEach Tryz.prog ts ds).all (· ≤ reachBytes) = true) : len * Tryz.prog.bytesOf e ≤ 140737488351232 := by
  obtain ⟨fuel, hf⟩ := h
  rcases open_slice hu hf with ⟨hcs, _⟩ | ⟨x, l, c, m, n, D, Pl, hcs, hy, hl, hm, hmm, hdd, hx⟩
  · simp [Value.cells] at hcs
    obtain ⟨rfl, rfl, rfl⟩ := hcs
    simp
  · simp [Value.cells] at hcs
    obtain ⟨rfl, rfl, rfl⟩ := hcs
    simp only [Prod.mk.injEq] at hdd
    have := sized_slice hs ht (hd.trans (congrArg some hdd.1)) hu
    simp only [List.length_map, List.length_range, reachBytes] at this
    exact Nat.le_trans (Nat.mul_le_mul_right _ (Nat.le_add_right _ _)) this
end
end Go.Proofs.YtgojlegknlalpaaGreatDoor
