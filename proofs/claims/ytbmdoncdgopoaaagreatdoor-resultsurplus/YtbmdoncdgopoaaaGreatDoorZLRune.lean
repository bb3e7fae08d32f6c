/- lex: runes and names, the program's and the document's. -/
import Derived.Test.YtbmdoncdgopoaaaGreatDoorRows
import Derived.Test.YtbmdoncdgopoaaaGreatDoorZLMath
import Derived.WalkKit
import Derived.WalkSpells
import Derived.WalkLawsBesides
import Derived.Laws.RangeAny
import Derived.Below
namespace Go.Proofs.YtbmdoncdgopoaaaGreatDoor
open Go.RowKit
set_option linter.unusedVariables false
set_option maxRecDepth 100000
set_option linter.unusedSimpArgs false

theorem hid {p : Prop} (h : p) : Hid p := h
theorem ret_bool {a b : Bool} (h : a = b) : Ending.returned (.bool a) = .returned (.bool b) := by rw [h]
theorem let_ways (r : Nat) : (r < 97 ∧ isLet r = false) ∨ (97 ≤ r ∧ r ≤ 122 ∧ isLet r = true) ∨ (122 < r ∧ r < 945 ∧ isLet r = false) ∨ (945 ≤ r ∧ r ≤ 969 ∧ isLet r = true) ∨ (969 < r ∧ isLet r = false) := by
  simp only [isLet, Bool.or_eq_true, Bool.or_eq_false_iff, Bool.and_eq_true, Bool.and_eq_false_iff, decide_eq_true_eq, decide_eq_false_iff_not]
  omega
theorem dig_ways (r : Nat) : (r < 48 ∧ isDig r = false) ∨ (48 ≤ r ∧ r ≤ 57 ∧ isDig r = true) ∨ (57 < r ∧ isDig r = false) := by
  simp only [isDig, Bool.and_eq_true, Bool.and_eq_false_iff, decide_eq_true_eq, decide_eq_false_iff_not]
  omega
theorem beq_no {a b : Nat} (h : a ≠ b) : ((a : Int) == (b : Int)) = false := by simp; omega
theorem beq_yes {a b : Nat} (h : a = b) : ((a : Int) == (b : Int)) = true := by subst h; simp
/-- The document's kind of a rune. -/
def kindOf (r : Nat) : Int := if isLet r = true then 1 else if isDig r = true then 2 else if r = 45 then 3 else if r = 44 then 4 else if r = 32 then 5 else 0
theorem kind_may (r : Nat) : (kindOf r == 0) = !may r := by
  unfold kindOf may
  by_cases h1 : isLet r = true
  · simp [h1]
  · by_cases h2 : isDig r = true
    · simp [h1, h2]
    · by_cases h3 : r = 45
      · subst h3; decide
      · by_cases h4 : r = 44
        · subst h4; decide
        · by_cases h5 : r = 32
          · subst h5; decide
          · simp [h1, h2, h3, h4, h5]
theorem kind_let (r : Nat) : (kindOf r == 1) = isLet r := by
  unfold kindOf
  by_cases h1 : isLet r = true
  · simp [h1]
  · rw [if_neg h1]
    simp only [Bool.not_eq_true] at h1
    rw [h1]
    repeat' split
    all_goals rfl
theorem kind_few (r : Nat) : 0 ≤ kindOf r ∧ kindOf r ≤ 5 := by
  unfold kindOf
  repeat' split
  all_goals omega
end Go.Proofs.YtbmdoncdgopoaaaGreatDoor
