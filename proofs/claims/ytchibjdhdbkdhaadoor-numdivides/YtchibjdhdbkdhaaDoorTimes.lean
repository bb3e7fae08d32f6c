/- addTimes: factor times some limbs added to a row from a place on. -/
import Derived.Test.YtchibjdhdbkdhaaDoorScale
import Derived.BigQuiet
namespace Go.Proofs.YtchibjdhdbkdhaaDoor
open Go.RowKit
set_option linter.unusedVariables false
set_option maxRecDepth 100000
set_option linter.unusedSimpArgs false

/-- A round of 'addTimes': S is the row as it stands, P as it was. -/
def TimesRel (P S B : List Nat) (n off f k d : Nat) : Prop := S.length = n ∧ Bd S ∧ (∀ j, off + k ≤ j → lg S j = lg P j) ∧ pv S (off + k) + d * 4294967296 ^ (off + k) = pv P (off + k) + f * pv B k * 4294967296 ^ off
theorem times_next (P S B : List Nat) (n off f k d : Nat) (hk : off + k < n) (h : TimesRel P S B n off f k d) :
    TimesRel P (S.set (off + k) ((f * lg B k + lg P (off + k) + d) % 4294967296)) B n off f (k + 1) ((f * lg B k + lg P (off + k) + d) / 4294967296) := by
  obtain ⟨h1, h2, h3, h4⟩ := h
  refine ⟨by simpa using h1, Bd_set h2 _ _ (by omega), fun j hj => ?_, ?_⟩
  · rw [lg_set_other S _ _ j (by omega)]; exact h3 j (by omega)
  · rw [← Nat.add_assoc]
    simp only [pv]
    rw [pv_set_past S (off + k) _ (off + k) (Nat.le_refl _), lg_set_same S _ _ (by omega), Nat.pow_succ, Nat.pow_add]
    rw [Nat.pow_add] at h4
    generalize 4294967296 ^ off = p at *
    generalize 4294967296 ^ k = q at *
    have hd := Nat.div_add_mod (f * lg B k + lg P (off + k) + d) 4294967296
    generalize (f * lg B k + lg P (off + k) + d) % 4294967296 = r at *
    generalize (f * lg B k + lg P (off + k) + d) / 4294967296 = t at *
    have e1 : (4294967296 * t + r) * (p * q) = (f * lg B k + lg P (off + k) + d) * (p * q) := by rw [hd]
    rw [Nat.add_mul, Nat.add_mul, Nat.add_mul] at e1
    have e2 : t * (p * q * 4294967296) = 4294967296 * t * (p * q) := by rw [Nat.mul_comm (p * q), ← Nat.mul_assoc, Nat.mul_comm t]
    have e3 : f * (pv B k + lg B k * q) * p = f * pv B k * p + f * lg B k * (p * q) := by
      rw [Nat.mul_add, Nat.add_mul, ← Nat.mul_assoc, Nat.mul_comm p q, ← Nat.mul_assoc (f * lg B k)]
    rw [e2, e3]
    omega
theorem times_done (P S B : List Nat) (n off f k d : Nat) (hk : off + k < n) (hB : B.length = k) (hd : d < 4294967296) (hz : lg P (off + k) = 0) (h : TimesRel P S B n off f k d) :
    (S.set (off + k) d).length = n ∧ Bd (S.set (off + k) d) ∧ (∀ j, off + k < j → lg (S.set (off + k) d) j = lg P j) ∧ pv (S.set (off + k) d) (off + k + 1) = pv P (off + k) + f * val B * 4294967296 ^ off := by
  obtain ⟨h1, h2, h3, h4⟩ := h
  refine ⟨by simpa using h1, Bd_set h2 _ _ hd, fun j hj => ?_, ?_⟩
  · rw [lg_set_other S _ _ j (by omega)]; exact h3 j (by omega)
  · simp only [pv]
    rw [pv_set_past S (off + k) _ (off + k) (Nat.le_refl _), lg_set_same S _ _ (by omega), h4]
    rw [pv_val B k (by omega)]
theorem times_small {f b p c : Nat} (hf : f < 4294967296) (hb : b < 4294967296) (hp : p < 4294967296) (hc : c < 4294967296) : f * b ≤ 18446744065119617025 ∧ f * b + p + c < 18446744073709551616 ∧ (f * b + p + c) / 4294967296 < 4294967296 := by
  have h1 : f * b ≤ 4294967295 * 4294967295 := Nat.mul_le_mul (by omega) (by omega)
  omega
theorem w64_3 {f b p c : Nat} (hf : f < 4294967296) (hb : b < 4294967296) (hp : p < 4294967296) (hc : c < 4294967296) :
    IntKind.u64.wrap (IntKind.u64.wrap (IntKind.u64.wrap ((f : Int) * (b : Int)) + (p : Int)) + (c : Int)) = ((f * b + p + c : Nat) : Int) := by
  obtain ⟨h1, h2, h3⟩ := times_small hf hb hp hc
  have e0 : (f : Int) * (b : Int) = ((f * b : Nat) : Int) := by simp
  rw [e0]
  generalize f * b = x at *
  have e1 : IntKind.u64.wrap ((x : Nat) : Int) = (x : Int) := w64 _ (by omega) (by omega)
  have e2 : IntKind.u64.wrap ((x : Int) + (p : Int)) = (x : Int) + (p : Int) := w64 _ (by omega) (by omega)
  rw [e1, e2, w64 _ (by omega) (by omega)]; omega
theorem own_drewN {w : World} {base : Nat} {e : TypeId} {size : Nat} {v : Value} {n : Nat} {xs : List Value} (h : w.ownsRow base e size v n xs) (q : Nat) : (w.drewN q).ownsRow base e size v n xs := h
theorem grown_drewN {a w : World} {row : Option Nat} (h : a.grownBy w row) (q : Nat) : a.grownBy (w.drewN q) row := ⟨h.os, h.tape, h.output, h.size, h.block⟩
end Go.Proofs.YtchibjdhdbkdhaaDoor
