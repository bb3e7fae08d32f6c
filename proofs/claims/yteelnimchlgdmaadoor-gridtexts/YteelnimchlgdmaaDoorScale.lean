/- scaleUp: the limbs made factor times as great, and more added. -/
import Derived.Test.YteelnimchlgdmaaDoorWalk1
namespace Go.Proofs.YteelnimchlgdmaaDoor
open Go.RowKit
set_option linter.unusedVariables false
set_option maxRecDepth 100000
set_option linter.unusedSimpArgs false

theorem grown_trans {a b c : World} {row : Option Nat} (h : a.grownBy b row) (k : b.grownBy c row) : a.grownBy c row :=
  ⟨k.os.trans h.os, k.tape.trans h.tape, k.output.trans h.output, Nat.le_trans h.size k.size, fun i hi hn => (k.block i (Nat.lt_of_lt_of_le hi h.size) hn).trans (h.block i hi hn)⟩
theorem scale_next (L S : List Nat) (f m k d n : Nat) (hk : k < n) (h : S.length = n ∧ Bd S ∧ (∀ j, k ≤ j → lg S j = lg L j) ∧ pv S k + d * 4294967296 ^ k = pv L k * f + m) :
    (S.set k ((lg L k * f + d) % 4294967296)).length = n ∧ Bd (S.set k ((lg L k * f + d) % 4294967296)) ∧ (∀ j, k + 1 ≤ j → lg (S.set k ((lg L k * f + d) % 4294967296)) j = lg L j) ∧
      pv (S.set k ((lg L k * f + d) % 4294967296)) (k + 1) + (lg L k * f + d) / 4294967296 * 4294967296 ^ (k + 1) = pv L (k + 1) * f + m := by
  obtain ⟨h1, h2, h3, h4⟩ := h
  refine ⟨by simpa using h1, Bd_set h2 k _ (by omega), fun j hj => ?_, scale_round L S f m k d (by omega) h4⟩
  rw [lg_set_other S k _ j (by omega)]; exact h3 j (by omega)
end Go.Proofs.YteelnimchlgdmaaDoor
