/- The document's Parse. -/
import Derived.Test.YteelnimchlgdmaaDoorRBase
import Derived.Test.YteelnimchlgdmaaDoorParse
namespace Go.Proofs.YteelnimchlgdmaaDoor
open Go.RowKit
set_option linter.unusedVariables false
set_option maxRecDepth 100000
set_option linter.unusedSimpArgs false

theorem Tryd.info3 : (Tryd.prog.info? 3).map (fun i => (i.zero, i.size, i.bytes)) = some (some (.int .i64 0), 1, 8) := by kernel_rfl
/-- What k digits from place a on are worth. -/
def sv (s : ByteArray) (a : Nat) : Nat → Nat
  | 0 => 0
  | k + 1 => sv s a k * 10 + (bt s (a + k) - 48)
theorem sv_lt {s : ByteArray} (a n : Nat) (h : ∀ k, k < n → 48 ≤ bt s (a + k) ∧ bt s (a + k) ≤ 57) : sv s a n < 10 ^ n := by
  induction n with
  | zero => simp [sv]
  | succ n ih =>
    have h1 := ih (fun k hk => h k (by omega))
    have h2 := h n (by omega)
    simp only [sv, Nat.pow_succ]; omega
theorem dv_sv (s : ByteArray) (a k : Nat) : dv s (a + k) = dv s a * 10 ^ k + sv s a k := by
  induction k with
  | zero => simp [sv]
  | succ k ih => rw [← Nat.add_assoc, dv, ih, sv, Nat.pow_succ, Nat.add_mul, Nat.mul_assoc]; omega
/-- What holds at the head of a round: t digits of nine signs each are taken off the end. -/
def RRel (s : ByteArray) (t : Nat) (D : List Nat) : Prop := D.length = t ∧ R.Bd D ∧ dv s s.size = dv s (s.size - 9 * t) * 10 ^ (9 * t) + R.pv D t
theorem lg_append_old (D : List Nat) (x j : Nat) (h : j < D.length) : lg (D ++ [x]) j = lg D j := by simp [lg, List.getD, List.getElem?_append_left h]
theorem lg_append_new (D : List Nat) (x : Nat) : lg (D ++ [x]) D.length = x := by simp [lg, List.getD]
theorem RRel.step {s : ByteArray} {t : Nat} {D : List Nat} (h : RRel s t D) (ht : 9 * t < s.size) (hd : ∀ k, k < s.size → 48 ≤ bt s k ∧ bt s k ≤ 57) (a k : Nat) (hk : k ≤ 9) (ha : a + k = s.size - 9 * t) (hz : k < 9 → a = 0) : RRel s (t + 1) (D ++ [sv s a k]) := by
  obtain ⟨h1, h2, h3⟩ := h
  have hx := sv_lt (s := s) a k (fun j hj => hd (a + j) (by omega))
  have hx9 : sv s a k < 1000000000 := by
    have : 10 ^ k ≤ 10 ^ 9 := Nat.pow_le_pow_right (by omega) hk
    have h9 : (10 : Nat) ^ 9 = 1000000000 := by decide
    omega
  refine ⟨by simp [h1], fun j => ?_, ?_⟩
  · rcases Nat.lt_trichotomy j D.length with e | e | e
    · rw [lg_append_old D _ j e]; exact h2 j
    · subst e; rw [lg_append_new]; exact hx9
    · rw [lg_past _ j (by simp; omega)]; omega
  · have e1 : R.pv (D ++ [sv s a k]) (t + 1) = R.pv D t + sv s a k * 1000000000 ^ t := by
      simp only [R.pv]
      rw [R.pv_congr (M := D) (fun j hj => lg_append_old D _ j (by omega)), ← h1, lg_append_new]
    rw [e1, h3, ← ha, dv_sv s a k]
    have e2 : 10 ^ (9 * t) = 1000000000 ^ t := Nat.pow_mul 10 9 t
    have e3 : s.size - 9 * (t + 1) = if k < 9 then 0 else a := by split <;> omega
    rw [e3, Nat.add_mul]
    by_cases hk9 : k < 9
    · rw [if_pos hk9, hz hk9]; simp [dv, e2]; omega
    · rw [if_neg hk9]
      have hk' : k = 9 := by omega
      subst hk'
      rw [show 9 * (t + 1) = 9 + 9 * t by omega, Nat.pow_add, ← Nat.mul_assoc, e2]; omega
theorem sv_small (s : ByteArray) (a n : Nat) (hn : n ≤ 8) (h : ∀ k, k < n → 48 ≤ bt s (a + k) ∧ bt s (a + k) ≤ 57) : sv s a n < 100000000 := by
  have h1 := sv_lt (s := s) a n h
  have h2 := pow10_le hn
  omega
theorem sv_next (s : ByteArray) (a j : Nat) (h : a ≤ j) : sv s a (j + 1 - a) = sv s a (j - a) * 10 + (bt s j - 48) := by
  rw [show j + 1 - a = (j - a) + 1 by omega, sv, show a + (j - a) = j by omega]
end Go.Proofs.YteelnimchlgdmaaDoor
