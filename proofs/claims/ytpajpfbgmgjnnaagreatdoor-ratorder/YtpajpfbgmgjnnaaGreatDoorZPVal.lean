/- Fractions, in plain terms: what lowest terms keep, and what the order makes of it. -/
import Derived.Test.YtpajpfbgmgjnnaaGreatDoorZPMath
namespace Go.Proofs.YtpajpfbgmgjnnaaGreatDoor
set_option linter.unusedVariables false

/-- Numerator and denominator are those of the lowest terms, times one number of the denominator's sign. -/
theorem low_scale {x y : Int} (h : y ≠ 0) : ∃ g : Int, g ≠ 0 ∧ (0 < y → 0 < g) ∧ x = g * lowN x y ∧ y = g * lowD x y := by
  have hg := lowG_pos (x := x) h
  have d1 : lowG x y ∣ x.natAbs := Nat.gcd_dvd_left _ _
  have d2 : lowG x y ∣ y.natAbs := Nat.gcd_dvd_right _ _
  obtain ⟨x', hx⟩ : (lowG x y : Int) ∣ x := Int.ofNat_dvd_left.2 d1
  obtain ⟨y', hy⟩ : (lowG x y : Int) ∣ y := Int.ofNat_dvd_left.2 d2
  have eD : lowD x y = (y'.natAbs : Int) := by
    unfold lowD
    have e : y.natAbs = lowG x y * y'.natAbs := by
      conv => lhs; rw [hy]
      rw [Int.natAbs_mul, Int.natAbs_natCast]
    rw [e, Nat.mul_div_cancel_left _ hg]
  have hg' : (lowG x y : Int) ≠ 0 := by omega
  have hgp : (0 : Int) < (lowG x y : Int) := by omega
  by_cases hn : y < 0
  · have hy' : y' < 0 := by
      by_cases k : y' < 0
      · exact k
      · have := Int.mul_nonneg (Int.le_of_lt hgp) (Int.not_lt.1 k)
        omega
    have eN : lowN x y = -x' := by
      unfold lowN
      rw [if_pos hn]
      have e : -x = (lowG x y : Int) * (-x') := by
        rw [Int.mul_neg, ← hx]
      rw [e, Int.mul_tdiv_cancel_left _ hg']
    refine ⟨-(lowG x y : Int), by omega, fun k => by omega, ?_, ?_⟩
    · rw [eN, Int.neg_mul_neg]; exact hx
    · rw [eD, show (y'.natAbs : Int) = -y' by omega, Int.neg_mul_neg]; exact hy
  · have hy' : 0 < y' := by
      by_cases k : 0 < y'
      · exact k
      · have := Int.mul_nonneg (Int.le_of_lt hgp) (show (0 : Int) ≤ -y' by omega)
        rw [Int.mul_neg] at this
        omega
    have eN : lowN x y = x' := by
      unfold lowN
      rw [if_neg hn]
      have e : x = (lowG x y : Int) * x' := hx
      conv => lhs; arg 1; rw [e]
      rw [Int.mul_tdiv_cancel_left _ hg']
    refine ⟨(lowG x y : Int), by omega, fun _ => hgp, ?_, ?_⟩
    · rw [eN]; exact hx
    · rw [eD, show (y'.natAbs : Int) = y' by omega]; exact hy
theorem cmpZ_scale {g a b : Int} (h : 0 < g) : cmpZ (g * a) (g * b) = cmpZ a b := by
  unfold cmpZ
  have e1 : g * a < g * b ↔ a < b := ⟨fun k => Int.lt_of_mul_lt_mul_left k (Int.le_of_lt h), fun k => Int.mul_lt_mul_of_pos_left k h⟩
  have e2 : g * b < g * a ↔ b < a := ⟨fun k => Int.lt_of_mul_lt_mul_left k (Int.le_of_lt h), fun k => Int.mul_lt_mul_of_pos_left k h⟩
  rcases Int.lt_trichotomy a b with k | k | k
  · have := e1.2 k
    simp [*] <;> omega
  · subst k; simp
  · have := e2.2 k
    (repeat' split) <;> first | rfl | omega
/-- The order of lowest terms is that of what they were made of. -/
theorem cmp_low_left {x y n d : Int} (h : 0 < y) : cmpZ (lowN x y * d) (n * lowD x y) = cmpZ (x * d) (n * y) := by
  obtain ⟨g, h1, h2, h3, h4⟩ := low_scale (x := x) (show y ≠ 0 by omega)
  generalize lowN x y = N at *
  generalize lowD x y = D at *
  subst h3; subst h4
  rw [← cmpZ_scale (h2 h), Int.mul_assoc g N d, Int.mul_left_comm n g D]
theorem cmp_low_right {x y n d : Int} (h : 0 < y) : cmpZ (n * lowD x y) (lowN x y * d) = cmpZ (n * y) (x * d) := by
  obtain ⟨g, h1, h2, h3, h4⟩ := low_scale (x := x) (show y ≠ 0 by omega)
  generalize lowN x y = N at *
  generalize lowD x y = D at *
  subst h3; subst h4
  rw [← cmpZ_scale (h2 h), Int.mul_assoc g N d, Int.mul_left_comm n g D]
end Go.Proofs.YtpajpfbgmgjnnaaGreatDoor
