/- The document's word and gcd. -/
import Derived.Test.YtchibjdhdbkdhaaDoorRAdd
import Derived.Test.YtchibjdhdbkdhaaDoorLaws
import Derived.Deep.LoopGhost
namespace Go.Proofs.YtchibjdhdbkdhaaDoor
open Go.RowKit
set_option linter.unusedVariables false
set_option maxRecDepth 100000
set_option linter.unusedSimpArgs false

theorem R.pv_lt_word {A : List Nat} (hA : R.Bd A) (h : A.length ≤ 2) : R.val A < 1000000000000000000 := by
  have h1 := R.val_lt hA
  have h2 : 1000000000 ^ A.length ≤ 1000000000 ^ 2 := Nat.pow_le_pow_right (by omega) h
  omega
theorem word_step {A : List Nat} {c j : Nat} (h : c * 1000000000 ^ (j + 1) + R.pv A (j + 1) = R.val A) : (c * 1000000000 + lg A j) * 1000000000 ^ j + R.pv A j = R.val A := by
  simp only [R.pv, Nat.pow_succ] at h
  rw [← h, Nat.add_mul, Nat.mul_assoc, Nat.mul_comm 1000000000 (1000000000 ^ j)]
  omega
theorem word_small {A : List Nat} {c j B : Nat} (h : c * 1000000000 ^ (j + 1) + R.pv A (j + 1) = R.val A) (hv : R.val A < B) : c * 1000000000 + lg A j < B := by
  have h1 := word_step h
  have hp : 0 < 1000000000 ^ j := Nat.pow_pos (by decide)
  have h2 : (c * 1000000000 + lg A j) * 1 ≤ (c * 1000000000 + lg A j) * 1000000000 ^ j := Nat.mul_le_mul_left _ hp
  omega
end Go.Proofs.YtchibjdhdbkdhaaDoor
