/- grid: what Within tells. -/
import Derived.Test.YtmoailbilnkfnaaGreatDoorPk43
namespace Go.Proofs.YtmoailbilnkfnaaGreatDoor
open Go.RowKit
set_option linter.unusedVariables false
set_option maxRecDepth 100000
set_option linter.unusedSimpArgs false

/-- No flow is beyond its line. -/
def wth (S : List Ln) (X : List Rat) : Prop := ∀ k (h : k < S.length), ((-S[k].c : Int) : Rat) ≤ rat' X k ∧ rat' X k ≤ ((S[k].c : Int) : Rat)
/-- What Within tells. -/
def WiR (F : List ByteArray) (S : List Ln) (R : Bool) : Prop := R = true ↔ (F.length = S.length ∧ ∃ X, Nums F X ∧ wth S X)
theorem WiR.uniq {F : List ByteArray} {S : List Ln} {R Q : Bool} (h : WiR F S R) (k : WiR F S Q) : R = Q := by
  have : R = true ↔ Q = true := h.trans k.symm
  cases R <;> cases Q <;> simp_all
theorem WiR.len {F : List ByteArray} {S : List Ln} (h : F.length ≠ S.length) : WiR F S false := ⟨fun k => (by cases k), fun k => absurd k.1 h⟩
theorem WiR.num {F : List ByteArray} {S : List Ln} (h : ¬ ∃ X, Nums F X) : WiR F S false := ⟨fun k => (by cases k), fun k => absurd (let ⟨X, hX, _⟩ := k.2; ⟨X, hX⟩) h⟩
theorem WiR.no {F : List ByteArray} {S : List Ln} {X : List Rat} (hX : Nums F X) (k : Nat) (hk : k < S.length) (h : ¬ (((-S[k].c : Int) : Rat) ≤ rat' X k ∧ rat' X k ≤ ((S[k].c : Int) : Rat))) : WiR F S false := ⟨fun q => (by cases q), fun q => by
  obtain ⟨_, Y, hY, hw⟩ := q
  obtain rfl := Nums.uniq hX hY
  exact absurd (hw k hk) h⟩
theorem WiR.yes {F : List ByteArray} {S : List Ln} {X : List Rat} (hl : F.length = S.length) (hX : Nums F X) (h : wth S X) : WiR F S true := ⟨fun _ => ⟨hl, X, hX, h⟩, fun _ => rfl⟩
theorem cmp_lt0 (p q : Rat) : decide (cmpR p q < 0) = decide (p < q) := by
  unfold cmpR
  by_cases h : p < q
  · rw [if_pos h]; simp [h]
  · rw [if_neg h]
    by_cases h2 : q < p
    · rw [if_pos h2]; simp [h]
    · rw [if_neg h2]; simp [h]
theorem cmp_gt0 (p q : Rat) : decide (0 < cmpR p q) = decide (q < p) := by
  unfold cmpR
  by_cases h : p < q
  · rw [if_pos h]
    have : ¬ q < p := Rat.not_lt.2 (Rat.le_of_lt h)
    simp [this]
  · rw [if_neg h]
    by_cases h2 : q < p
    · rw [if_pos h2]; simp [h2]
    · rw [if_neg h2]; simp [h2]
end Go.Proofs.YtmoailbilnkfnaaGreatDoor
