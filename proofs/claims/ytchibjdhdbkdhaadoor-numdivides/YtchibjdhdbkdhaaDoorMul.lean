/- Mul: the product of two numbers. -/
import Derived.Test.YtchibjdhdbkdhaaDoorTimes
import Derived.Deep.RegionHeld3
import Derived.Deep.DrawnRows
namespace Go.Proofs.YtchibjdhdbkdhaaDoor
open Go.RowKit
set_option linter.unusedVariables false
set_option maxRecDepth 100000
set_option linter.unusedSimpArgs false
attribute [local go_sem ↓] Go.wp_at_zero Go.wp_at_succ

theorem mul_next (A B S P' : List Nat) (k n : Nat) (m1 : P'.length = n) (m2 : Bd P') (m3 : ∀ j, k + B.length < j → lg P' j = lg S j) (m4 : pv P' (k + B.length + 1) = pv S (k + B.length) + lg A k * val B * 4294967296 ^ k)
    (h : S.length = n ∧ Bd S ∧ (∀ j, k + B.length ≤ j → lg S j = 0) ∧ pv S (k + B.length) = pv A k * val B) :
    P'.length = n ∧ Bd P' ∧ (∀ j, k + 1 + B.length ≤ j → lg P' j = 0) ∧ pv P' (k + 1 + B.length) = pv A (k + 1) * val B := by
  obtain ⟨h1, h2, h3, h4⟩ := h
  refine ⟨m1, m2, fun j hj => by rw [m3 j (by omega)]; exact h3 j (by omega), ?_⟩
  rw [show k + 1 + B.length = k + B.length + 1 by omega, m4, h4, pv, Nat.add_mul]
  rw [Nat.mul_right_comm (lg A k)]
theorem mul_keep {W X : World} {p q r k g : Nat} {a b c : Value} (hp : W.cell? ⟨p, 0, none⟩ = some a) (hq : W.cell? ⟨q, 0, none⟩ = some b) (hr : W.cell? ⟨r, k, none⟩ = some c) (h : W.drew.grownBy X (some g)) (n1 : p ≠ g) (n2 : q ≠ g) (n3 : r ≠ g) :
    X.cell? ⟨p, 0, none⟩ = some a ∧ X.cell? ⟨q, 0, none⟩ = some b ∧ X.cell? ⟨r, k, none⟩ = some c :=
  ⟨h.cell hp (by simp; exact n1), h.cell hq (by simp; exact n2), h.cell hr (by simp; exact n3)⟩
end Go.Proofs.YtchibjdhdbkdhaaDoor
