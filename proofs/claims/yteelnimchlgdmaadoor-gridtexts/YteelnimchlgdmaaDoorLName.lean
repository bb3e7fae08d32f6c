/- lex: Name, the program's and the document's. -/
import Derived.Test.YteelnimchlgdmaaDoorLRune
namespace Go.Proofs.YteelnimchlgdmaaDoor
open Go.RowKit
set_option linter.unusedVariables false
set_option maxRecDepth 100000
set_option linter.unusedSimpArgs false

/-- Letters alone, one to eight. -/
def nameB (s : ByteArray) : Bool := runs isLet (bl s) && decide (1 ≤ many (bl s) ∧ many (bl s) ≤ 8)
theorem iter_below (w : World) (s : ByteArray) (k : Nat) : Below w.heap.size w (w.iter s k) := (Below.refl _ _).alloc (Nat.le_refl _) _
theorem drop_all (s : ByteArray) (k : Nat) (h : ¬ k < s.size) : (bl s).drop k = [] := List.drop_eq_nil_of_le (by rw [bl_len]; omega)
theorem many_le : ∀ (n : Nat) (l : List UInt8), l.length ≤ n → many l ≤ l.length
  | 0, l, h => by obtain rfl : l = [] := List.eq_nil_of_length_eq_zero (by omega)
                  simp [many]
  | n + 1, [], _ => by simp [many]
  | n + 1, b :: r, h => by
    by_cases hb : b.toNat < 128
    · rw [many_low hb]
      have := many_le n r (by simp at h; omega)
      simp; omega
    · cases r with
      | nil => rw [many, if_neg hb]; simp
      | cons c r =>
        rw [many_high hb]
        have := many_le n r (by simp at h; omega)
        simp; omega
end Go.Proofs.YteelnimchlgdmaaDoor
