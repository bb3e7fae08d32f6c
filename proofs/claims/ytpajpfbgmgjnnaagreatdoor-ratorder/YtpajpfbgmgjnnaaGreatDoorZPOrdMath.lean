/- Fractions, in plain terms: the middle of two, and when two are one. -/
import Derived.Test.YtpajpfbgmgjnnaaGreatDoorZPVal
namespace Go.Proofs.YtpajpfbgmgjnnaaGreatDoor
set_option linter.unusedVariables false

theorem cmpZ_swap (a b : Int) : cmpZ b a = -cmpZ a b := by
  unfold cmpZ
  (repeat' split) <;> omega
theorem cmpZ_add (a b c : Int) : cmpZ (a + c) (b + c) = cmpZ a b := by
  unfold cmpZ
  (repeat' split) <;> omega
theorem cmpZ_zero {a b : Int} : cmpZ a b = 0 ↔ a = b := by
  unfold cmpZ
  (repeat' split) <;> omega
theorem can_uniq' {s : ByteArray} {n d n' d' : Int} (h : Can s n d) (k : Can s n' d') : n = n' ∧ d = d' := by
  obtain ⟨p, hc, _⟩ := cut_bar s
  by_cases hp : p < s.size
  · have a := (can_parts hc hp).1 h
    have b := (can_parts hc hp).1 k
    exact ⟨a.2.2.2.1.uniq b.2.2.2.1, a.2.2.2.2.uniq b.2.2.2.2⟩
  · have e : p = s.size := by have := hc.le; omega
    subst e
    have a := (can_whole hc).1 h
    have b := (can_whole hc).1 k
    exact ⟨a.2.uniq b.2, a.1.trans b.1.symm⟩
theorem can_same {s t : ByteArray} {n1 m1 n2 m2 : Int} (h : Can s n1 m1) (k : Can t n2 m2) : n1 * m2 = n2 * m1 ↔ s = t := by
  constructor
  · intro e
    have p1 := h.pos
    have p2 := k.pos
    have e' : n1.natAbs * m2.natAbs = n2.natAbs * m1.natAbs := by
      rw [← Int.natAbs_mul, ← Int.natAbs_mul, e]
    have d1 : m1.natAbs ∣ m2.natAbs := (Nat.Coprime.symm h.cop).dvd_of_dvd_mul_left ⟨n2.natAbs, by rw [e', Nat.mul_comm]⟩
    have d2 : m2.natAbs ∣ m1.natAbs := (Nat.Coprime.symm k.cop).dvd_of_dvd_mul_left ⟨n1.natAbs, by rw [← e', Nat.mul_comm]⟩
    have em : m1.natAbs = m2.natAbs := Nat.dvd_antisymm d1 d2
    have em' : m1 = m2 := by omega
    subst em'
    have en : n1 = n2 := Int.eq_of_mul_eq_mul_right (by omega) e
    subst en
    exact h.tx.inj k.tx
  · intro e
    subst e
    obtain ⟨rfl, rfl⟩ := can_uniq' h k
    rfl
theorem mid_left {n1 m1 n2 m2 : Int} (h1 : 0 < m1) (h2 : 0 < m2) : cmpZ (lowN (lowN (n1 * m2 + n2 * m1) (m1 * m2) * 1) (lowD (n1 * m2 + n2 * m1) (m1 * m2) * 2) * m1) (n1 * lowD (lowN (n1 * m2 + n2 * m1) (m1 * m2) * 1) (lowD (n1 * m2 + n2 * m1) (m1 * m2) * 2)) = -cmpZ (n1 * m2) (n2 * m1) := by
  have hD : 0 < m1 * m2 := Int.mul_pos h1 h2
  have hT := low_pos (x := n1 * m2 + n2 * m1) (show m1 * m2 ≠ 0 by omega)
  rw [cmp_low_left (by omega), Int.mul_one, show n1 * (lowD (n1 * m2 + n2 * m1) (m1 * m2) * 2) = (n1 * 2) * lowD (n1 * m2 + n2 * m1) (m1 * m2) by rw [Int.mul_assoc, Int.mul_comm _ 2], cmp_low_left hD]
  rw [show (n1 * m2 + n2 * m1) * m1 = m1 * (n2 * m1 + n1 * m2) by rw [Int.mul_comm, Int.add_comm], show n1 * 2 * (m1 * m2) = m1 * (n1 * m2 + n1 * m2) by rw [← Int.two_mul, Int.mul_left_comm m1, Int.mul_comm n1 2, Int.mul_assoc, Int.mul_left_comm n1 m1 m2], cmpZ_scale h1, cmpZ_add, cmpZ_swap]
theorem mid_right {n1 m1 n2 m2 : Int} (h1 : 0 < m1) (h2 : 0 < m2) : cmpZ (lowN (lowN (n1 * m2 + n2 * m1) (m1 * m2) * 1) (lowD (n1 * m2 + n2 * m1) (m1 * m2) * 2) * m2) (n2 * lowD (lowN (n1 * m2 + n2 * m1) (m1 * m2) * 1) (lowD (n1 * m2 + n2 * m1) (m1 * m2) * 2)) = cmpZ (n1 * m2) (n2 * m1) := by
  have hD : 0 < m1 * m2 := Int.mul_pos h1 h2
  have hT := low_pos (x := n1 * m2 + n2 * m1) (show m1 * m2 ≠ 0 by omega)
  rw [cmp_low_left (by omega), Int.mul_one, show n2 * (lowD (n1 * m2 + n2 * m1) (m1 * m2) * 2) = (n2 * 2) * lowD (n1 * m2 + n2 * m1) (m1 * m2) by rw [Int.mul_assoc, Int.mul_comm _ 2], cmp_low_left hD]
  rw [show (n1 * m2 + n2 * m1) * m2 = m2 * (n1 * m2 + n2 * m1) by rw [Int.mul_comm], show n2 * 2 * (m1 * m2) = m2 * (n2 * m1 + n2 * m1) by rw [← Int.two_mul, Int.mul_left_comm m2, Int.mul_comm n2 2, Int.mul_assoc, Int.mul_comm m1 m2, Int.mul_left_comm n2 m2 m1], cmpZ_scale h2, cmpZ_add]
theorem mid_twice {S T : Int} (hT : 0 < T) : cmpZ (lowN (lowN (S * 1) (T * 2) * lowD (S * 1) (T * 2) + lowN (S * 1) (T * 2) * lowD (S * 1) (T * 2)) (lowD (S * 1) (T * 2) * lowD (S * 1) (T * 2)) * T) (S * lowD (lowN (S * 1) (T * 2) * lowD (S * 1) (T * 2) + lowN (S * 1) (T * 2) * lowD (S * 1) (T * 2)) (lowD (S * 1) (T * 2) * lowD (S * 1) (T * 2))) = 0 := by
  have hQ := low_pos (x := S * 1) (show T * 2 ≠ 0 by omega)
  obtain ⟨g, h1, _, h3, h4⟩ := low_scale (x := S * 1) (show T * 2 ≠ 0 by omega)
  generalize lowN (S * 1) (T * 2) = M at *
  generalize lowD (S * 1) (T * 2) = Q at *
  rw [cmp_low_left (Int.mul_pos (by omega) (by omega)), cmpZ_zero, Int.mul_one] at *
  rw [h3, ← Int.two_mul, show 2 * (M * Q) * T = (M * Q) * (T * 2) by rw [Int.mul_comm 2, Int.mul_assoc (M * Q), Int.mul_comm 2 T], h4]
  rw [Int.mul_left_comm (M * Q) g Q, Int.mul_assoc g M, ← Int.mul_assoc M Q Q]
end Go.Proofs.YtpajpfbgmgjnnaaGreatDoor
