/- The laws' helper 'heavy'. -/
import Derived.Test.YtfpifjejooineaaRcSame
namespace Go.Proofs.Ytfpifjejooineaa.Rc
open Go.RowKit
set_option linter.unusedVariables false
set_option maxRecDepth 100000
set_option linter.unusedSimpArgs false

def rsum (r : Rec) : Nat := min r.who.size 1048576 + min r.text.size 1048576 + min r.nums.length 1048576
def hsum (L : List Rec) (n : Nat) : Nat → Nat
  | 0 => n
  | k + 1 => hsum L n k + (L[k]?.map rsum).getD 0
theorem hsum_ge (L : List Rec) (n : Nat) : ∀ k, n ≤ hsum L n k
  | 0 => Nat.le_refl _
  | k + 1 => by have := hsum_ge L n k; simp only [hsum]; omega
theorem hsum_mono (L : List Rec) (n : Nat) (k : Nat) : ∀ j, hsum L n k ≤ hsum L n (k + j)
  | 0 => Nat.le_refl _
  | j + 1 => by have := hsum_mono L n k j; rw [← Nat.add_assoc]; simp only [hsum]; omega
/-- What is not too much. -/
theorem hsum_few {L : List Rec} (h : hsum L L.length L.length ≤ 131072) : L.length ≤ 131072 ∧ ∀ r ∈ L, r.nums.length ≤ 131072 := by
  refine ⟨Nat.le_trans (hsum_ge L L.length L.length) h, fun r hr => ?_⟩
  obtain ⟨i, hi, rfl⟩ := List.getElem_of_mem hr
  have h1 := hsum_mono L L.length (i + 1) (L.length - (i + 1))
  rw [show i + 1 + (L.length - (i + 1)) = L.length by omega] at h1
  have h2 : hsum L L.length (i + 1) = hsum L L.length i + rsum L[i] := by rw [hsum, List.getElem?_eq_getElem hi]; rfl
  have h3 : min L[i].nums.length 1048576 ≤ rsum L[i] := by unfold rsum; omega
  omega
end Go.Proofs.Ytfpifjejooineaa.Rc
