/- texts that came in. -/
import Derived.Test.YtcdkoadobdgbhaaGreatDoorPk14
import Derived.Deep.Slices
import Derived.ProofKit
import Derived.OpenShut
import Derived.ChangeSame
import Derived.ChangeArms
namespace Go.Proofs.YtcdkoadobdgbhaaGreatDoor
open Go.RowKit Go.Deep
set_option linter.unusedVariables false
set_option maxRecDepth 100000
set_option linter.unusedSimpArgs false

section
variable {H : Type} {enc : TypeId × Value → H} {W : World} {base : Nat} {spare : Nat → Bool} {held : Bool}
theorem cstrs_in {v : Value} {fuel : Nat} {y : DataW H × List MemPlace} (h : DataW.trod enc Tryz.prog W base spare held fuel 39 [v] = some y) : ∃ L, Strs W v L := by
  rcases ChangeShapes.open_strings Tryz.underlying39 Tryz.underlying9 (by kernel_rfl) h with ⟨hcs, _⟩ | ⟨x, l, c, zs, hcs, _, hl, hm, hz, _, hcell, hwz⟩
  · simp only [List.cons.injEq, and_true] at hcs
    subst hcs
    exact ⟨[], Strs.nil W⟩
  · simp only [List.cons.injEq, and_true] at hcs
    subst hcs
    have hlz : l ≤ zs.length := by rw [hz]; split <;> omega
    have hlen : (strV (zs.take l)).length = l := by rw [strV_len, List.length_take]; omega
    refine ⟨zs.take l, ⟨some x, c, by rw [hlen], by omega, hm, ?_⟩, fun z hz => hwz z (List.mem_of_mem_take hz)⟩
    by_cases h0 : l = 0
    · exact Or.inl (by rw [h0]; simp [strV])
    · obtain ⟨b, off, sp⟩ := x
      cases sp with
      | none =>
        refine Or.inr ⟨b, off, rfl, fun i hi => ?_⟩
        rw [hlen] at hi
        have h1 := hcell i (by omega)
        rw [add_off] at h1
        rw [h1, strV_at _ _ (by rw [List.length_take]; omega), List.getElem_take]
        simp [List.getD_eq_getElem?_getD, List.getElem?_eq_getElem (show i < zs.length by omega)]
      | some q =>
        have g0 := hcell 0 (by omega)
        unfold World.cell? at g0
        simp [Addr.add] at g0
        split at g0 <;> simp_all
end
end Go.Proofs.YtcdkoadobdgbhaaGreatDoor
