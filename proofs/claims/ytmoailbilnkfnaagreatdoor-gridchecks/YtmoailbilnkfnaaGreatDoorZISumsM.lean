/- GridSums: plain parts. -/
import Derived.Test.YtmoailbilnkfnaaGreatDoorZIWith0
import Derived.Test.YtmoailbilnkfnaaGreatDoorZIBlk
namespace Go.Proofs.YtmoailbilnkfnaaGreatDoor
open Go.RowKit
set_option linter.unusedVariables false
set_option maxRecDepth 100000
set_option linter.unusedSimpArgs false

/-- How many limbs, behind so many sums. -/
def KS (K : Nat) : Nat → Nat
  | 0 => K
  | k + 1 => 2 * KS K k + 6
theorem ks_ge (K : Nat) : ∀ k, K ≤ KS K k
  | 0 => Nat.le_refl _
  | k + 1 => by have := ks_ge K k; simp only [KS]; omega
theorem ks_le (K k : Nat) (h : k ≤ 3) : KS K k ≤ 8 * K + 42 := by
  match k, h with
  | 0, _ => simp only [KS]; omega
  | 1, _ => simp only [KS]; omega
  | 2, _ => simp only [KS]; omega
  | 3, _ => simp only [KS]; omega
theorem sumZ_yes {p : Nat → Bool} {f : Nat → Rat} {k : Nat} (h : p k = true) : sumZ p f (k + 1) = sumZ p f k + f k := by simp only [sumZ]; rw [if_pos h]
theorem sumZ_no {p : Nat → Bool} {f : Nat → Rat} {k : Nat} (h : p k = false) : sumZ p f (k + 1) = sumZ p f k := by simp only [sumZ]; rw [h]; simp [Rat.add_zero]
theorem all_zero {S : List Ln} {X : List Rat} {n : Nat} (hS : Fit S n) : sumZ (fun _ => true) (fun z => expo S X z S.length) n = 0 := sumZ_expo hS _ (fun _ _ => Or.inl rfl) S.length (Nat.le_refl _)
theorem own_zero {S : List Ln} {X : List Rat} {n : Nat} {R : List Nat} (hS : Fit S n) (hC : Clo S R) (hw : wth S X) (z : Nat) : sumZ (fun i => decide (at' R i = z)) (fun z => expo S X z S.length) n = 0 := by
  refine sumZ_expo hS _ (fun i h => ?_) S.length (Nat.le_refl _)
  by_cases hc : 0 < S[i].c
  · refine Or.inl ?_
    have := hC S[i] (List.getElem_mem h) hc
    rw [this]
  · refine Or.inr ?_
    have k := hS _ (List.getElem_mem h)
    have e : S[i].c = 0 := by omega
    obtain ⟨h1, h2⟩ := hw i h
    rw [e] at h1 h2
    simp only [Int.neg_zero] at h1
    exact Rat.le_antisymm h2 h1
theorem IExp.none {F : List ByteArray} {S : List Ln} {n M : Nat} {e : Ending} {w' : World} (h : IExp F S n M e w') (hn : F.length = S.length) (hX : ¬ ∃ X, Nums F X) : e = .returned (.tuple #[.slice none 0 0, .int .i64 10]) := by
  rcases h with ⟨h, _⟩ | ⟨_, _, h⟩ | ⟨_, Y, tv, Z, h1, _⟩
  · exact absurd hn h
  · exact h
  · exact absurd ⟨Y, h1⟩ hX
theorem sgn_nought : sgnR 0 = 0 := by decide
theorem ints_at14 {w : World} {v : Value} {R : List Nat} (h : Ints w v (R.map fun x => ((x : Nat) : Int))) (h0 : 0 < R.length) : ∃ b off c, v = .slice (some ⟨b, off, none⟩) R.length c ∧ R.length ≤ c ∧ c ≤ maxLen ∧ ∀ i, i < R.length → w.cell? ⟨b, off + i, none⟩ = some (.int .i64 ((at' R i : Nat) : Int)) := by
  obtain ⟨b, off, c, h1, h2, h3, -⟩ := h.at 0 (by simpa using h0)
  rw [List.length_map] at h1 h2
  refine ⟨b, off, c, h1, h2, h3, fun i hi => ?_⟩
  obtain ⟨b', off', c', h1', _, _, h4⟩ := h.at i (by simpa using hi)
  rw [h1] at h1'
  simp only [Value.slice.injEq, Option.some.injEq, Addr.mk.injEq] at h1'
  obtain ⟨⟨rfl, rfl, -⟩, -⟩ := h1'
  rw [h4]
  simp [at', List.getD_eq_getElem?_getD, hi]
end Go.Proofs.YtmoailbilnkfnaaGreatDoor
