/- The document's Mul. -/
import Derived.Test.YtjldlmonccgopaaDoorPk10
import Derived.Test.YtjldlmonccgopaaDoorPk9
namespace Go.Proofs.YtjldlmonccgopaaDoor
open Go.RowKit
set_option linter.unusedVariables false
set_option maxRecDepth 100000
set_option linter.unusedSimpArgs false
attribute [local go_sem ↓] Go.wp_at_zero Go.wp_at_succ

/-- A round of the inner loop: S is the row as it stands, P as it was. -/
def RTimesRel (P S B : List Nat) (n off f k d : Nat) : Prop := S.length = n ∧ R.Bd S ∧ (∀ j, off + k ≤ j → lg S j = lg P j) ∧ R.pv S (off + k) + d * 1000000000 ^ (off + k) = R.pv P (off + k) + f * R.pv B k * 1000000000 ^ off
theorem rtimes_next (P S B : List Nat) (n off f k d : Nat) (hk : off + k < n) (h : RTimesRel P S B n off f k d) :
    RTimesRel P (S.set (off + k) ((f * lg B k + lg P (off + k) + d) % 1000000000)) B n off f (k + 1) ((f * lg B k + lg P (off + k) + d) / 1000000000) := by
  obtain ⟨h1, h2, h3, h4⟩ := h
  refine ⟨by simpa using h1, R.Bd_set h2 _ _ (by omega), fun j hj => ?_, ?_⟩
  · rw [lg_set_other S _ _ j (by omega)]; exact h3 j (by omega)
  · rw [← Nat.add_assoc]
    simp only [R.pv]
    rw [R.pv_set_past S (off + k) _ (off + k) (Nat.le_refl _), lg_set_same S _ _ (by omega), Nat.pow_succ, Nat.pow_add]
    rw [Nat.pow_add] at h4
    generalize 1000000000 ^ off = p at *
    generalize 1000000000 ^ k = q at *
    have hd := Nat.div_add_mod (f * lg B k + lg P (off + k) + d) 1000000000
    generalize (f * lg B k + lg P (off + k) + d) % 1000000000 = r at *
    generalize (f * lg B k + lg P (off + k) + d) / 1000000000 = t at *
    have e1 : (1000000000 * t + r) * (p * q) = (f * lg B k + lg P (off + k) + d) * (p * q) := by rw [hd]
    rw [Nat.add_mul, Nat.add_mul, Nat.add_mul] at e1
    have e2 : t * (p * q * 1000000000) = 1000000000 * t * (p * q) := by rw [Nat.mul_comm (p * q), ← Nat.mul_assoc, Nat.mul_comm t]
    have e3 : f * (R.pv B k + lg B k * q) * p = f * R.pv B k * p + f * lg B k * (p * q) := by
      rw [Nat.mul_add, Nat.add_mul, ← Nat.mul_assoc, Nat.mul_comm p q, ← Nat.mul_assoc (f * lg B k)]
    rw [e2, e3]
    omega
theorem rtimes_done (P S B : List Nat) (n off f k d : Nat) (hk : off + k < n) (hB : B.length = k) (hd : d < 1000000000) (hz : lg P (off + k) = 0) (h : RTimesRel P S B n off f k d) :
    (S.set (off + k) d).length = n ∧ R.Bd (S.set (off + k) d) ∧ (∀ j, off + k < j → lg (S.set (off + k) d) j = lg P j) ∧ R.pv (S.set (off + k) d) (off + k + 1) = R.pv P (off + k) + f * R.val B * 1000000000 ^ off := by
  obtain ⟨h1, h2, h3, h4⟩ := h
  refine ⟨by simpa using h1, R.Bd_set h2 _ _ hd, fun j hj => ?_, ?_⟩
  · rw [lg_set_other S _ _ j (by omega)]; exact h3 j (by omega)
  · simp only [R.pv]
    rw [R.pv_set_past S (off + k) _ (off + k) (Nat.le_refl _), lg_set_same S _ _ (by omega), h4]
    rw [R.pv_val B k (by omega)]
theorem rmul_next (A B S P' : List Nat) (k n : Nat) (m1 : P'.length = n) (m2 : R.Bd P') (m3 : ∀ j, k + B.length < j → lg P' j = lg S j) (m4 : R.pv P' (k + B.length + 1) = R.pv S (k + B.length) + lg A k * R.val B * 1000000000 ^ k)
    (h : S.length = n ∧ R.Bd S ∧ (∀ j, k + B.length ≤ j → lg S j = 0) ∧ R.pv S (k + B.length) = R.pv A k * R.val B) :
    P'.length = n ∧ R.Bd P' ∧ (∀ j, k + 1 + B.length ≤ j → lg P' j = 0) ∧ R.pv P' (k + 1 + B.length) = R.pv A (k + 1) * R.val B := by
  obtain ⟨h1, h2, h3, h4⟩ := h
  refine ⟨m1, m2, fun j hj => by rw [m3 j (by omega)]; exact h3 j (by omega), ?_⟩
  rw [show k + 1 + B.length = k + B.length + 1 by omega, m4, h4, R.pv, Nat.add_mul]
  rw [Nat.mul_right_comm (lg A k)]
theorem rtimes_small {f b p c : Nat} (hf : f < 1000000000) (hb : b < 1000000000) (hp : p < 1000000000) (hc : c < 1000000000) : f * b ≤ 999999998000000001 ∧ f * b + p + c < 1000000000000000000 ∧ (f * b + p + c) / 1000000000 < 1000000000 := by
  have h1 : f * b ≤ 999999999 * 999999999 := Nat.mul_le_mul (by omega) (by omega)
  omega
theorem wrap64_same (x : Int) (h0 : -9223372036854775808 ≤ x) (h1 : x ≤ 9223372036854775807) : wrap64 x = x := by
  have h := w64i x h0 h1
  first | exact h | (simp only [IntKind.wrap] at h; simpa [wrap64] using h) | (unfold wrap64; omega)
theorem w64_r {f b p c : Nat} (hf : f < 1000000000) (hb : b < 1000000000) (hp : p < 1000000000) (hc : c < 1000000000) :
    wrap64 ((c : Int) + (p : Int) + wrap64 ((f : Int) * (b : Int))) = ((f * b + p + c : Nat) : Int) := by
  obtain ⟨h1, h2, h3⟩ := rtimes_small hf hb hp hc
  have e0 : (f : Int) * (b : Int) = ((f * b : Nat) : Int) := by simp
  rw [e0]
  generalize f * b = x at *
  rw [wrap64_same ((x : Nat) : Int) (by omega) (by omega), wrap64_same _ (by omega) (by omega)]; omega
end Go.Proofs.YtjldlmonccgopaaDoor
