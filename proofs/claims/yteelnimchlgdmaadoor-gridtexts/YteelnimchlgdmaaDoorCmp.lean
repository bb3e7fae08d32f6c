/- Cmp: the order of two numbers. -/
import Derived.Test.YteelnimchlgdmaaDoorWalk1
namespace Go.Proofs.YteelnimchlgdmaaDoor
open Go.RowKit
set_option linter.unusedVariables false
set_option maxRecDepth 100000
set_option linter.unusedSimpArgs false

theorem cmp_below {A B : List Nat} {n m : Nat} (hA : Bd A) (ha : A.length = n) (hb : B.length = n) (hm : m < n) (he : ∀ j, m < j → j < n → lg A j = lg B j) (h : lg A m < lg B m) : val A < val B := by
  unfold val; rw [ha, hb]; exact pv_lt_at hA m n hm he h
theorem cmp_all {A B : List Nat} {n : Nat} (ha : A.length = n) (hb : B.length = n) (he : ∀ j, j < n → lg A j = lg B j) : A = B := by
  refine list_ext_lg (by omega) fun j => ?_
  by_cases h : j < n
  · exact he j h
  · rw [lg_past A j (by omega), lg_past B j (by omega)]
/-- -1, 0, 1: below, the same, above. -/
def cmpI (a b : Nat) : Int := if a < b then -1 else if b < a then 1 else 0
theorem cmpI_lt {a b : Nat} (h : a < b) : cmpI a b = -1 := by simp [cmpI, h]
theorem cmpI_gt {a b : Nat} (h : b < a) : cmpI a b = 1 := by simp [cmpI, h]; omega
theorem cmpI_eq {a b : Nat} (h : a = b) : cmpI a b = 0 := by simp [cmpI, h]
end Go.Proofs.YteelnimchlgdmaaDoor
