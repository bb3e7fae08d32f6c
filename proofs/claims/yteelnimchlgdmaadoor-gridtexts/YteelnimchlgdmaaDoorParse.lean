/- Parse: the number whose text it is. -/
import Derived.Test.YteelnimchlgdmaaDoorIsText
namespace Go.Proofs.YteelnimchlgdmaaDoor
open Go.RowKit
set_option linter.unusedVariables false
set_option maxRecDepth 100000
set_option linter.unusedSimpArgs false

/-- What holds at the head of a round: k digits are read, the last of them, worth c, not yet put to the limbs. -/
def ParseRel (s : ByteArray) (n k p c : Nat) (S : List Nat) : Prop := S.length = n ∧ Bd S ∧ dv s k = val S * p + c ∧ c < p ∧ (k = s.size → p = 1) ∧ ∃ q, q ≤ 8 ∧ p = 10 ^ q
theorem parse_round_on {s : ByteArray} {n k p c : Nat} {S : List Nat} (h : ParseRel s n k p c S) (hp : p ≠ 100000000) (hk : k + 1 ≠ s.size) (hd : bt s k - 48 ≤ 9) : ParseRel s n (k + 1) (p * 10) (c * 10 + (bt s k - 48)) S := by
  obtain ⟨h1, h2, h3, h4, h5, q, hq, h6⟩ := h
  have hq8 : q ≠ 8 := by rintro rfl; exact hp (by rw [h6])
  refine ⟨h1, h2, ?_, by omega, fun e => absurd e hk, q + 1, by omega, by rw [h6, Nat.pow_succ]⟩
  rw [dv, h3, Nat.add_mul, Nat.mul_assoc]; omega
theorem parse_round_fit {s : ByteArray} {n k p c : Nat} {S : List Nat} (h : ParseRel s n k p c S) (hd : ∀ j, j < k + 1 → 48 ≤ bt s j ∧ bt s j ≤ 57) (hn : k + 1 < 9 * n) : val S * (p * 10) + (c * 10 + (bt s k - 48)) < 4294967296 ^ n ∧ val S * (p * 10) + (c * 10 + (bt s k - 48)) = dv s (k + 1) := by
  obtain ⟨h1, h2, h3, h4, h5, q, hq, h6⟩ := h
  have e : val S * (p * 10) + (c * 10 + (bt s k - 48)) = dv s (k + 1) := by
    rw [dv, h3, Nat.add_mul, Nat.mul_assoc]; omega
  have h7 := dv_lt (k + 1) hd
  have h8 := fit_pow (k + 1) n hn
  exact ⟨by omega, e⟩
theorem pow10_le {q : Nat} (h : q ≤ 8) : 10 ^ q ≤ 100000000 := by
  have : 10 ^ q ≤ 10 ^ 8 := Nat.pow_le_pow_right (by omega) h
  simpa using this
theorem ParseRel.small {s : ByteArray} {n k p c : Nat} {S : List Nat} (h : ParseRel s n k p c S) : p ≤ 100000000 ∧ c < p := by
  obtain ⟨h1, h2, h3, h4, h5, q, hq, h6⟩ := h
  exact ⟨by rw [h6]; exact pow10_le hq, h4⟩
end Go.Proofs.YteelnimchlgdmaaDoor
