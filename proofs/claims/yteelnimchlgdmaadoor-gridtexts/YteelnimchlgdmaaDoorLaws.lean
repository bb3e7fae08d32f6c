/- The order's laws. -/
import Derived.Test.YteelnimchlgdmaaDoorBoxes
import Derived.Test.YteelnimchlgdmaaDoorCmp
namespace Go.Proofs.YteelnimchlgdmaaDoor
open Go.RowKit
set_option linter.unusedVariables false
set_option maxRecDepth 100000

theorem cmpI_neg (a b : Nat) : cmpI b a = - cmpI a b := by
  unfold cmpI; repeat' split
  all_goals omega
theorem cmpI_bd (a b : Nat) : -1 ≤ cmpI a b ∧ cmpI a b ≤ 1 := by
  unfold cmpI; repeat' split
  all_goals omega
theorem cmpI_add (a b c : Nat) : cmpI (a + c) (b + c) = cmpI a b := by
  unfold cmpI; repeat' split
  all_goals omega
theorem cmpI_zero (a b : Nat) : cmpI a b = 0 ↔ a = b := by
  unfold cmpI; repeat' split
  all_goals omega
theorem cmpI_trans (a b c : Nat) : 0 < cmpI a b ∨ 0 < cmpI b c ∨ cmpI a c ≤ 0 := by
  unfold cmpI; repeat' split
  all_goals omega
end Go.Proofs.YteelnimchlgdmaaDoor
