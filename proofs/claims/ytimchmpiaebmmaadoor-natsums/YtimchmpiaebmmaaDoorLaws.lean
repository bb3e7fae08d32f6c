/- Small facts that several laws share: worlds one behind the other; the order's laws. -/
import Derived.Test.YtimchmpiaebmmaaDoorNumber
import Derived.Test.YtimchmpiaebmmaaDoorCmp
namespace Go.Proofs.YtimchmpiaebmmaaDoor
open Go.RowKit
set_option linter.unusedVariables false
set_option maxRecDepth 100000

theorem chain3 {w w1 W1 W2 W3 : World} (h0 : Below w.heap.size w w1) (h1 : Below w1.heap.size w1 W1) (h2 : Below W1.heap.size W1 W2) (h3 : Below W2.heap.size W2 W3) : Below w.heap.size w W3 := by
  have s0 := h0.size
  have s1 := h1.size
  have s2 := h2.size
  exact ((h0.trans (h1.mono s0)).trans (h2.mono (by omega))).trans (h3.mono (by omega))
theorem chain2 {w a b : World} (h : Below w.heap.size w a) (k : Below a.heap.size a b) : Below w.heap.size w b := h.trans (k.mono h.size)
theorem keep3 {W X : World} {p q r : Nat} {a b c : Value} (hp : W.cell? ⟨p, 0, none⟩ = some a) (hq : W.cell? ⟨q, 0, none⟩ = some b) (hr : W.cell? ⟨r, 0, none⟩ = some c) (h : Below W.heap.size W X) :
    X.cell? ⟨p, 0, none⟩ = some a ∧ X.cell? ⟨q, 0, none⟩ = some b ∧ X.cell? ⟨r, 0, none⟩ = some c :=
  ⟨(h.cell (World.block_lt_of_cell? W _ hp)).trans hp, (h.cell (World.block_lt_of_cell? W _ hq)).trans hq, (h.cell (World.block_lt_of_cell? W _ hr)).trans hr⟩
theorem cmpI_neg (a b : Nat) : cmpI b a = - cmpI a b := by
  unfold cmpI; repeat' split
  all_goals omega
theorem cmpI_bd (a b : Nat) : -1 ≤ cmpI a b ∧ cmpI a b ≤ 1 := by
  unfold cmpI; repeat' split
  all_goals omega
theorem cmpI_add (a b c : Nat) : cmpI (a + c) (b + c) = cmpI a b := by
  unfold cmpI; repeat' split
  all_goals omega
theorem cmpI_zero (a b : Nat) : cmpI a b = 0 ↔ a = b := by
  unfold cmpI; repeat' split
  all_goals omega
theorem cmpI_trans (a b c : Nat) : 0 < cmpI a b ∨ 0 < cmpI b c ∨ cmpI a c ≤ 0 := by
  unfold cmpI; repeat' split
  all_goals omega
end Go.Proofs.YtimchmpiaebmmaaDoor
