/- Floor and Round of fractions: what they come to when a fraction is lowered, shifted, or turned. -/
import Derived.Test.YtjldlmonccgopaaGreatDoorZPRound
import Derived.Test.YtjldlmonccgopaaGreatDoorPk31
namespace Go.Proofs.YtjldlmonccgopaaGreatDoor
open Go.RowKit
set_option linter.unusedVariables false

theorem fd_def {n d : Int} (hd : 0 < d) : n = d * n.fdiv d + n.fmod d ∧ 0 ≤ n.fmod d ∧ n.fmod d < d := by
  refine ⟨?_, Int.fmod_nonneg_of_pos n hd, Int.fmod_lt_of_pos n hd⟩
  have := Int.fmod_add_mul_fdiv n d
  omega
theorem fd_char {n d q r : Int} (hd : 0 < d) (h : n = d * q + r) (h0 : 0 ≤ r) (h1 : r < d) : n.fdiv d = q ∧ n.fmod d = r := by
  rw [Int.fdiv_eq_ediv_of_nonneg n (Int.le_of_lt hd), Int.fmod_eq_emod_of_nonneg n (Int.le_of_lt hd)]
  exact (Int.ediv_emod_unique hd).2 ⟨by omega, h0, h1⟩
theorem rnd_of {n d q r : Int} (hd : 0 < d) (h : n = d * q + r) (h0 : 0 ≤ r) (h1 : r < d) : rnd n d = if d < r + r ∨ (r + r = d ∧ ¬ q.fmod 2 = 0) then q + 1 else q := by
  obtain ⟨e1, e2⟩ := fd_char hd h h0 h1
  unfold rnd
  rw [e1, e2]
theorem low_parts {x y : Int} (h : 0 < y) : ∃ g N D : Int, 0 < g ∧ 0 < D ∧ lowN x y = N ∧ lowD x y = D ∧ x = g * N ∧ y = g * D := by
  obtain ⟨g, h1, h2, h3, h4⟩ := low_scale (x := x) (show y ≠ 0 by omega)
  exact ⟨g, _, _, h2 h, by have := low_pos (x := x) (show y ≠ 0 by omega); omega, rfl, rfl, h3, h4⟩
theorem fdiv_low {x y : Int} (h : 0 < y) : (lowN x y).fdiv (lowD x y) = x.fdiv y := by
  obtain ⟨g, N, D, hg, hD, e1, e2, e3, e4⟩ := low_parts (x := x) h
  rw [e1, e2]
  obtain ⟨k1, k2, k3⟩ := fd_def (n := N) hD
  have a1 : 0 ≤ g * N.fmod D := Int.mul_nonneg (Int.le_of_lt hg) k2
  have a2 : g * N.fmod D < g * D := Int.mul_lt_mul_of_pos_left k3 hg
  have a3 : x = y * N.fdiv D + g * N.fmod D := by
    rw [e3, e4, Int.mul_assoc, ← Int.mul_add, ← k1]
  exact (fd_char h a3 a1 (by rw [← e4] at a2; exact a2)).1.symm
theorem rnd_low {x y : Int} (h : 0 < y) : rnd (lowN x y) (lowD x y) = rnd x y := by
  obtain ⟨g, N, D, hg, hD, e1, e2, e3, e4⟩ := low_parts (x := x) h
  rw [e1, e2]
  obtain ⟨k1, k2, k3⟩ := fd_def (n := N) hD
  have a1 : 0 ≤ g * N.fmod D := Int.mul_nonneg (Int.le_of_lt hg) k2
  have a2 : g * N.fmod D < g * D := Int.mul_lt_mul_of_pos_left k3 hg
  have a3 : x = y * N.fdiv D + g * N.fmod D := by
    rw [e3, e4, Int.mul_assoc, ← Int.mul_add, ← k1]
  rw [rnd_of h a3 a1 (by rw [← e4] at a2; exact a2)]
  unfold rnd
  have c1 : y < g * N.fmod D + g * N.fmod D ↔ D < N.fmod D + N.fmod D := by
    rw [e4, ← Int.mul_add]
    exact ⟨fun k => Int.lt_of_mul_lt_mul_left k (Int.le_of_lt hg), fun k => Int.mul_lt_mul_of_pos_left k hg⟩
  have c2 : g * N.fmod D + g * N.fmod D = y ↔ N.fmod D + N.fmod D = D := by
    rw [e4, ← Int.mul_add]
    exact ⟨fun k => Int.eq_of_mul_eq_mul_left (by omega) k, fun k => by rw [k]⟩
  simp only [c1, c2]
theorem fdiv_shift {n d m : Int} (hd : 0 < d) : (lowN (n * 1 + m * d) (d * 1)).fdiv (lowD (n * 1 + m * d) (d * 1)) - m = n.fdiv d := by
  rw [fdiv_low (by omega)]
  obtain ⟨k1, k2, k3⟩ := fd_def (n := n) hd
  have e : n * 1 + m * d = d * 1 * (n.fdiv d + m) + n.fmod d := by
    rw [Int.mul_one, Int.mul_one, Int.mul_add, Int.mul_comm m d]; omega
  rw [(fd_char (by omega) e k2 (by omega)).1]
  omega
theorem rnd_shift {n d m : Int} (hd : 0 < d) : rnd (lowN (n * 1 + 2 * m * d) (d * 1)) (lowD (n * 1 + 2 * m * d) (d * 1)) - 2 * m = rnd n d := by
  rw [rnd_low (by omega)]
  obtain ⟨k1, k2, k3⟩ := fd_def (n := n) hd
  have e : n * 1 + 2 * m * d = d * 1 * (n.fdiv d + 2 * m) + n.fmod d := by
    rw [Int.mul_one, Int.mul_one, Int.mul_add, Int.mul_comm (2 * m) d]; omega
  rw [rnd_of (by omega) e k2 (by omega), rnd_of hd k1 k2 k3]
  have p : (n.fdiv d + 2 * m).fmod 2 = (n.fdiv d).fmod 2 := by
    rw [Int.fmod_eq_emod_of_nonneg _ (by decide), Int.fmod_eq_emod_of_nonneg _ (by decide)]
    omega
  rw [p, Int.mul_one]
  split <;> omega
theorem rnd_neg {n d : Int} (hd : 0 < d) : -(rnd (-n) d) = rnd n d := by
  obtain ⟨k1, k2, k3⟩ := fd_def (n := n) hd
  rw [rnd_of hd k1 k2 k3]
  by_cases hz : n.fmod d = 0
  · have e : -n = d * (-(n.fdiv d)) + 0 := by rw [Int.mul_neg]; omega
    rw [rnd_of hd e (by omega) hd, hz, if_neg (by omega), if_neg (by omega), Int.neg_neg]
  · have e : -n = d * (-(n.fdiv d) - 1) + (d - n.fmod d) := by rw [Int.mul_sub, Int.mul_neg, Int.mul_one]; omega
    rw [rnd_of hd e (by omega) (by omega)]
    have p : (-(n.fdiv d) - 1).fmod 2 = 1 - (n.fdiv d).fmod 2 ∧ (0 ≤ (n.fdiv d).fmod 2 ∧ (n.fdiv d).fmod 2 < 2) := by
      rw [Int.fmod_eq_emod_of_nonneg _ (by decide), Int.fmod_eq_emod_of_nonneg _ (by decide)]
      omega
    rw [p.1]
    split <;> split <;> omega
theorem cmpZ_self (a : Int) : cmpZ a a = 0 := by unfold cmpZ; rw [if_neg (by omega), if_neg (by omega)]
end Go.Proofs.YtjldlmonccgopaaGreatDoor
