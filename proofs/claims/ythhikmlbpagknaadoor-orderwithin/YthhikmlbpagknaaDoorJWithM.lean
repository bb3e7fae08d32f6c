/- What is parsed lies within bounds. -/
import Derived.Test.YthhikmlbpagknaaDoorJPar
namespace Go.Proofs.YthhikmlbpagknaaDoor
open Go.RowKit
set_option linter.unusedVariables false
set_option maxRecDepth 100000
set_option linter.unusedSimpArgs false

theorem orE_zero {e f : Int} (h : orE e f = 0) : e = 0 ∧ f = 0 := by
  unfold orE at h
  split at h
  · rename_i k; exact ⟨k, h⟩
  · rename_i k; exact absurd h k
theorem numF_zero {x : ByteArray} {lo hi bad : Int} (h : numF x lo hi bad = 0) (hb : ¬ bad = 0) : lo ≤ numR x ∧ numR x ≤ hi := by
  unfold numF at h
  split at h
  · omega
  · split at h
    · exact absurd h hb
    · rename_i k; omega
theorem place_zero {x : ByteArray} {n bad : Int} (h : numF x 0 (top n) bad = 0) (hb : ¬ bad = 0) : 0 ≤ numR x ∧ numR x < n := by
  have := numF_zero h hb
  unfold top at this
  omega
theorem qF_zero {x : ByteArray} {n : Int} (h : qF x n = 0) : numsE x = 0 ∧ ((numsL x).length : Int) = n ∧ (∀ q ∈ numsL x, 0 ≤ q ∧ q ≤ 1000) ∧ ∃ q ∈ numsL x, 0 < q := by
  unfold qF at h
  split at h
  · omega
  · split at h
    · omega
    · split at h
      · omega
      · rename_i h1 h2 h3
        refine ⟨by simpa using h1, by simpa using h2, ?_⟩
        have h4 : qtyBad (numsL x) = false := by simpa using h3
        unfold qtyBad at h4
        rw [Bool.or_eq_false_iff] at h4
        refine ⟨fun q hq => ?_, ?_⟩
        · have := List.any_eq_false.1 h4.1 q hq
          simp at this; omega
        · have h5 : ((numsL x).any fun q => decide (0 < q)) = true := by simpa using h4.2
          obtain ⟨q, hq, k⟩ := List.any_eq_true.1 h5
          exact ⟨q, hq, by simpa using k⟩
theorem nums_few {x : ByteArray} (h : numsE x = 0) : (numsL x).length ≤ 16 := by
  rw [numsL_ok h, List.length_map]
  unfold numsE at h
  split at h
  · omega
  · split at h
    · omega
    · omega
/-- What a parsed Ask fulfils, kind by kind. -/
structure WLock (a : Ak) : Prop where
  kind : a.kind = 1
  c1 : 1 ≤ a.cents
  c2 : a.cents ≤ 1000000000
structure WCancel (a : Ak) : Prop where
  kind : a.kind = 4
  c1 : 1 ≤ a.seq
  c2 : a.seq ≤ 1000
structure WStep (who : ByteArray) (g : Gd) (a : Ak) : Prop where
  kind : a.kind = 2
  sw : a.sw = who
  c1 : 1 ≤ a.s1 ∧ a.s1 ≤ 1000
  c2 : 0 ≤ a.s2 ∧ a.s2 < g.zones
  c3 : 0 ≤ a.s3 ∧ a.s3 < g.hours
  c5 : 1 ≤ a.s5 ∧ a.s5 ≤ 1000
  c6 : g.low ≤ a.s6 ∧ a.s6 ≤ g.high
structure WBlock (who : ByteArray) (g : Gd) (a : Ak) : Prop where
  kind : a.kind = 3
  bw : a.bw = who
  few : a.bq.length ≤ 16
  len : (a.bq.length : Int) = g.hours
  each : ∀ q ∈ a.bq, 0 ≤ q ∧ q ≤ 1000
  one : ∃ q ∈ a.bq, 0 < q
  c2 : 0 ≤ a.b2 ∧ a.b2 < g.zones
  c4 : g.low ≤ a.b4 ∧ a.b4 ≤ g.high
  c6 : 0 ≤ a.b6
  c7 : 0 ≤ a.b7
theorem par_within (who line : ByteArray) (g : Gd) : (par who line g).1 = 0 → WLock (par who line g).2 ∨ WCancel (par who line g).2 ∨ WStep who g (par who line g).2 ∨ WBlock who g (par who line g).2 := by
  refine par_cases who line g (fun z => z.1 = 0 → WLock z.2 ∨ WCancel z.2 ∨ WStep who g z.2 ∨ WBlock who g z.2) ?_ ?_ ?_ ?_ ?_ ?_ ?_ ?_ ?_ ?_ ?_ ?_ ?_ ?_
  · intro h k; exact absurd k h
  · intro x0 R _ _ _ _ _ _ k; cases k
  · intro R _ _ _ k; cases k
  · intro x1 _ _ h k; exact absurd k h
  · intro x1 _ _ h _
    have := numF_zero (orE_zero h).2 (by omega)
    exact Or.inl ⟨rfl, this.1, this.2⟩
  · intro R _ _ _ k; cases k
  · intro x1 x2 x3 x4 x5 x6 _ _ h k; exact absurd k h
  · intro x1 x2 x3 x4 x5 x6 _ _ h _
    unfold stepE at h
    obtain ⟨h, h6⟩ := orE_zero h
    obtain ⟨h, h5⟩ := orE_zero h
    obtain ⟨h, h4⟩ := orE_zero h
    obtain ⟨h, h3⟩ := orE_zero h
    obtain ⟨h, h2⟩ := orE_zero h
    obtain ⟨_, h1⟩ := orE_zero h
    exact Or.inr (Or.inr (Or.inl ⟨rfl, rfl, numF_zero h1 (by omega), place_zero h2 (by omega), place_zero h3 (by omega), numF_zero h5 (by omega), numF_zero h6 (by omega)⟩))
  · intro R _ _ _ k; cases k
  · intro x1 x2 x3 x4 x5 x6 x7 _ _ h k; exact absurd k h
  · intro x1 x2 x3 x4 x5 x6 x7 _ _ h _
    unfold blockE at h
    obtain ⟨h, h7⟩ := orE_zero h
    obtain ⟨h, h6⟩ := orE_zero h
    obtain ⟨h, h5⟩ := orE_zero h
    obtain ⟨h, h4⟩ := orE_zero h
    obtain ⟨h, h3⟩ := orE_zero h
    obtain ⟨h, h2⟩ := orE_zero h
    obtain ⟨q0, q1, q2, q3⟩ := qF_zero h5
    exact Or.inr (Or.inr (Or.inr ⟨rfl, rfl, nums_few q0, q1, q2, q3, place_zero h2 (by omega), numF_zero h4 (by omega), (numF_zero h6 (by omega)).1, (numF_zero h7 (by omega)).1⟩))
  · intro R _ _ _ k; cases k
  · intro x1 _ _ h k; exact absurd k h
  · intro x1 _ _ h _
    have := numF_zero (orE_zero h).2 (by omega)
    exact Or.inr (Or.inl ⟨rfl, this.1, this.2⟩)
/-- The sum of the first k. -/
def sumTo (L : List Int) : Nat → Int
  | 0 => 0
  | k + 1 => sumTo L k + L.getD k 0
theorem sumTo_le {L : List Int} (h : ∀ q ∈ L, 0 ≤ q ∧ q ≤ 1000) : ∀ k, k ≤ L.length → 0 ≤ sumTo L k ∧ sumTo L k ≤ 1000 * k
  | 0, _ => by simp [sumTo]
  | k + 1, hk => by
    have ih := sumTo_le h k (by omega)
    have hq := h (L.getD k 0) (by rw [List.getD_eq_getElem?_getD, List.getElem?_eq_getElem (by omega)]; exact List.getElem_mem _)
    simp only [sumTo]; omega
theorem sumTo_pos {L : List Int} (h : ∀ q ∈ L, 0 ≤ q ∧ q ≤ 1000) (j : Nat) (hj : j < L.length) (hp : 0 < L[j]) : ∀ k, k ≤ L.length → j < k → 0 < sumTo L k
  | 0, _, h2 => by omega
  | k + 1, hk, h2 => by
    have hb := sumTo_le h k (by omega)
    have hq := h (L.getD k 0) (by rw [List.getD_eq_getElem?_getD, List.getElem?_eq_getElem (by omega)]; exact List.getElem_mem _)
    simp only [sumTo]
    by_cases e : j = k
    · subst e
      have : L.getD j 0 = L[j] := by rw [List.getD_eq_getElem?_getD, List.getElem?_eq_getElem hj]; rfl
      omega
    · have := sumTo_pos h j hj hp k (by omega) (by omega)
      omega
theorem sum_all {L : List Int} (h : ∀ q ∈ L, 0 ≤ q ∧ q ≤ 1000) (h1 : ∃ q ∈ L, 0 < q) : 0 < sumTo L L.length := by
  obtain ⟨q, hq, hp⟩ := h1
  obtain ⟨j, hj, rfl⟩ := List.getElem_of_mem hq
  exact sumTo_pos h j hj hp L.length (Nat.le_refl _) hj
end Go.Proofs.YthhikmlbpagknaaDoor
