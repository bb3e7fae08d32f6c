/- How far a fraction is from its floor and from its rounded number. -/
import Derived.Test.YtjldlmonccgopaaGreatDoorZPShMath
namespace Go.Proofs.YtjldlmonccgopaaGreatDoor
open Go.RowKit
set_option linter.unusedVariables false

theorem cmpZ_le {a b : Int} (h : a ≤ b) : cmpZ a b ≤ 0 := by
  unfold cmpZ
  (repeat' split) <;> omega
theorem cmpZ_lt {a b : Int} (h : a < b) : cmpZ a b < 0 := by
  unfold cmpZ
  (repeat' split) <;> omega
theorem rnd_off {n d : Int} (hd : 0 < d) : -d ≤ 2 * (n - rnd n d * d) ∧ 2 * (n - rnd n d * d) ≤ d := by
  obtain ⟨k1, k2, k3⟩ := fd_def (n := n) hd
  rw [rnd_of hd k1 k2 k3]
  split
  · rw [Int.add_mul, Int.mul_comm (n.fdiv d) d]; omega
  · rw [Int.mul_comm (n.fdiv d) d]; omega
theorem floor_under {n d : Int} (hd : 0 < d) : cmpZ (n.fdiv d * d) (n * 1) ≤ 0 := by
  obtain ⟨k1, k2, k3⟩ := fd_def (n := n) hd
  refine cmpZ_le ?_
  rw [Int.mul_comm (n.fdiv d) d]; omega
theorem floor_near {n d : Int} (hd : 0 < d) : cmpZ (lowN (n * 1 - n.fdiv d * d) (d * 1) * 1) (1 * lowD (n * 1 - n.fdiv d * d) (d * 1)) < 0 := by
  obtain ⟨k1, k2, k3⟩ := fd_def (n := n) hd
  rw [cmp_low_left (by omega)]
  refine cmpZ_lt ?_
  rw [Int.mul_comm (n.fdiv d) d]; omega
theorem twice_near {s D : Int} (hD : 0 < D) (h : s + s ≤ D) : cmpZ (lowN (s * D + s * D) (D * D) * 1) (1 * lowD (s * D + s * D) (D * D)) ≤ 0 := by
  rw [cmp_low_left (Int.mul_pos hD hD)]
  refine cmpZ_le ?_
  rw [Int.mul_one, Int.one_mul, ← Int.add_mul]
  exact Int.mul_le_mul_of_nonneg_right h (Int.le_of_lt hD)
theorem round_near {n d : Int} (hd : 0 < d) : lowN (n * 1 - rnd n d * d) (d * 1) + lowN (n * 1 - rnd n d * d) (d * 1) ≤ lowD (n * 1 - rnd n d * d) (d * 1) ∧ -lowN (n * 1 - rnd n d * d) (d * 1) + -lowN (n * 1 - rnd n d * d) (d * 1) ≤ lowD (n * 1 - rnd n d * d) (d * 1) := by
  obtain ⟨h1, h2⟩ := rnd_off (n := n) hd
  obtain ⟨g, N, D, hg, hD, e1, e2, e3, e4⟩ := low_parts (x := n * 1 - rnd n d * d) (y := d * 1) (by omega)
  rw [e1, e2]
  have a1 : g * (N + N) ≤ g * D := by rw [Int.mul_add, ← e3, ← e4]; omega
  have a2 : g * (-N + -N) ≤ g * D := by rw [Int.mul_add, Int.mul_neg, ← e3, ← e4]; omega
  exact ⟨Int.le_of_mul_le_mul_left a1 hg, Int.le_of_mul_le_mul_left a2 hg⟩
theorem make_whole (F : Int) : mkN F 1 = F ∧ mkD F 1 = 1 ∧ mkE 1 = 0 := by
  have h := low_id (x := F) (y := 1) (by decide) (Nat.gcd_one_right _)
  unfold mkN mkD mkE
  rw [if_neg (by decide), if_neg (by decide), if_neg (by decide)]
  exact ⟨h.1, h.2, rfl⟩
end Go.Proofs.YtjldlmonccgopaaGreatDoor
