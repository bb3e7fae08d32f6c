/- TableauKeeps: plain parts. -/
import Derived.Test.YtgojlegknlalpaaGreatDoorPk43
namespace Go.Proofs.YtgojlegknlalpaaGreatDoor
open Go.RowKit
set_option linter.unusedVariables false
set_option maxRecDepth 100000
set_option linter.unusedSimpArgs false

def g1k (t : Int) : Int := t.tmod 1000
theorem g1k_lt (t : Int) : -1000 < g1k t ∧ g1k t < 1000 := by
  unfold g1k
  have h1 := Int.tmod_lt_of_pos t (show (0 : Int) < 1000 by decide)
  have h2 := Int.lt_tmod_of_pos t (show (0 : Int) < 1000 by decide)
  omega
/-- What a row makes of a list. -/
def dotV (v : Nat → Rat) (X : List Int) : Nat → Rat
  | 0 => 0
  | k + 1 => dotV v X k + v k * ((g1k (X.getD k 0) : Int) : Rat)
theorem dotV_congr {v u : Nat → Rat} {X : List Int} : ∀ k, (∀ x, x < k → v x = u x) → dotV v X k = dotV u X k
  | 0, _ => rfl
  | k + 1, h => by
    simp only [dotV]
    rw [dotV_congr k (fun x hx => h x (by omega)), h k (by omega)]
theorem dotV_div (v : Nat → Rat) (X : List Int) (p : Rat) : ∀ k, dotV (fun x => v x / p) X k = dotV v X k / p
  | 0 => by simp only [dotV]; rw [Rat.div_def, Rat.zero_mul]
  | k + 1 => by
    simp only [dotV]
    rw [dotV_div v X p k]
    simp only [Rat.div_def]
    grind
theorem dotV_sub (v u : Nat → Rat) (X : List Int) (c : Rat) : ∀ k, dotV (fun x => v x - u x * c) X k = dotV v X k - dotV u X k * c
  | 0 => by simp only [dotV]; grind
  | k + 1 => by
    simp only [dotV]
    rw [dotV_sub v u X c k]
    grind
def dotS (L X : List Int) : Nat → Int
  | 0 => 0
  | k + 1 => dotS L X k + L.getD k 0 * g1k (X.getD k 0)
theorem dotV_vl (a : URw) (X : List Int) : ∀ k, dotV (vl a) X k = ((dotS a.1 X k : Int) : Rat) / ((a.2.1 : Int) : Rat)
  | 0 => by simp only [dotV, dotS]; rw [nought_div]
  | k + 1 => by
    simp only [dotV, dotS]
    rw [dotV_vl a X k]
    unfold vl
    simp only [Rat.div_def, Rat.intCast_add, Rat.intCast_mul]
    grind
theorem dotS_abs {L X : List Int} {m : Nat} (h : ∀ t ∈ L, t.natAbs < 10 ^ m) : ∀ k, (dotS L X k).natAbs ≤ k * (1000 * 10 ^ m)
  | 0 => by simp [dotS]
  | k + 1 => by
    have ih := dotS_abs (X := X) h k
    have hg := g1k_lt (X.getD k 0)
    have h1 : (L.getD k 0).natAbs ≤ 10 ^ m := by
      by_cases hk : k < L.length
      · rw [getD_at hk]; exact Nat.le_of_lt (h _ (List.getElem_mem hk))
      · simp [List.getD_eq_getElem?_getD, List.getElem?_eq_none (show L.length ≤ k by omega)]
    have h2 : (L.getD k 0 * g1k (X.getD k 0)).natAbs ≤ 1000 * 10 ^ m := by
      rw [Int.natAbs_mul, Nat.mul_comm]
      exact Nat.mul_le_mul (by omega) h1
    simp only [dotS]
    have h3 := Int.natAbs_add_le (dotS L X k) (L.getD k 0 * g1k (X.getD k 0))
    rw [Nat.succ_mul]
    omega
theorem lt10_div {S b : Int} {M : Nat} (hb : 0 < b) (hS : S.natAbs < 10 ^ M) (hbM : b.natAbs < 10 ^ M) : Lt10 M ((S : Rat) / (b : Rat)) := by
  rw [← Rat.divInt_eq_div]
  constructor
  · rw [Rat.num_divInt, Int.sign_eq_one_of_pos hb, Int.one_mul]
    exact Nat.lt_of_le_of_lt (abs_div_le _ _) hS
  · rw [Rat.den_divInt, if_neg (by omega)]
    exact Nat.lt_of_le_of_lt (Nat.div_le_self _ _) hbM
theorem vl_lt {A : List URw} {c m i k : Nat} (h : PInv A c m) (hi : i < A.length) (hk : k < c) : Lt10 m (vl A[i] k) := by
  have ab := h.abs _ (List.getElem_mem hi)
  have hl := h.len _ (List.getElem_mem hi)
  unfold vl
  rw [getD_at (by omega)]
  exact lt10_div (h.pos _ (List.getElem_mem hi)) (ab.1 _ (List.getElem_mem _)) ab.2
theorem dotV_lt {A : List URw} {c m i k : Nat} {X : List Int} (h : PInv A c m) (hi : i < A.length) (hk : k ≤ 192) : Lt10 (m + 25) (dotV (vl A[i]) X k) := by
  have ab := h.abs _ (List.getElem_mem hi)
  rw [dotV_vl]
  have e : 10 ^ (m + 25) = 10 ^ m * 10000000000000000000000000 := by rw [Nat.pow_add]
  have hp : 0 < 10 ^ m := Nat.pow_pos (by decide)
  refine lt10_div (h.pos _ (List.getElem_mem hi)) ?_ ?_
  · have h1 := dotS_abs (X := X) ab.1 k
    have h2 : k * (1000 * 10 ^ m) ≤ 192 * (1000 * 10 ^ m) := Nat.mul_le_mul_right _ hk
    omega
  · have := ab.2
    omega
/-- What every row makes 0, it makes 0 behind a pivot. -/
theorem keep_piv {A : List URw} {i k c m : Nat} {X : List Int} (h : PInv A c m) (hi : i < A.length) (hk : k < c) (hne : (A[i]).1.getD k 0 ≠ 0) :
    (∀ j (hj : j < (pivA A i k).length), dotV (vl (pivA A i k)[j]) X c = 0) ↔ (∀ j (hj : j < A.length), dotV (vl A[j]) X c = 0) := by
  have hl := pivA_len A i k
  have hb : (((A[i]).2.1 : Int) : Rat) ≠ 0 := int_ne (h.pos _ (List.getElem_mem hi))
  have hn : (((A[i]).1.getD k 0 : Int) : Rat) ≠ 0 := fun q => hne (by exact_mod_cast q)
  have hp : vl A[i] k ≠ 0 := by
    intro e
    unfold vl at e
    grind
  have ri : ∀ (hi' : i < (pivA A i k).length), dotV (vl (pivA A i k)[i]) X c = dotV (vl A[i]) X c / vl A[i] k := fun hi' => by
    rw [← dotV_div]
    exact dotV_congr c (fun x hx => pivA_row h hi hk hne x hx hi')
  have rj : ∀ j (hj : j < A.length) (hj' : j < (pivA A i k).length), j ≠ i → dotV (vl (pivA A i k)[j]) X c = dotV (vl A[j]) X c - dotV (vl A[i]) X c / vl A[i] k * vl A[j] k := fun j hj hj' hji => by
    rw [← dotV_div, ← dotV_sub]
    exact dotV_congr c (fun x hx => pivA_other h hi hj hji hk hne x hx hj')
  constructor
  · intro H
    have h0 : dotV (vl A[i]) X c = 0 := by
      have := H i (by omega)
      rw [ri (by omega)] at this
      grind
    intro j hj
    by_cases e : j = i
    · subst e; exact h0
    · have := H j (by omega)
      rw [rj j hj (by omega) e, h0] at this
      grind
  · intro H j hj
    have hj' : j < A.length := by omega
    by_cases e : j = i
    · subst e
      rw [ri hj, H j hj']
      grind
    · rw [rj j hj' hj e, H j hj', H i hi]
      grind
theorem sgn0 (p : Rat) : (sgnR p == 0) = decide (p = 0) := by
  unfold sgnR
  by_cases h1 : p < 0
  · rw [if_pos h1]
    have : p ≠ 0 := fun e => by subst e; exact absurd h1 (by decide)
    simp [this]
  · rw [if_neg h1]
    by_cases h2 : 0 < p
    · rw [if_pos h2]
      have : p ≠ 0 := fun e => by subst e; exact absurd h2 (by decide)
      simp [this]
    · rw [if_neg h2]
      have : p = 0 := by grind
      simp [this]
theorem pow_moreK (K x : Nat) (h : x < 4294967296 ^ K) : x < 4294967296 ^ (K + 1) := by
  have h1 : 1 ≤ (4294967296 : Nat) ^ K := Nat.one_le_pow _ _ (by decide)
  rw [Nat.pow_succ]
  omega
theorem txk_size {s : ByteArray} {q : Rat} {m : Nat} (t : TxR s q) (h : Lt10 m q) : s.size ≤ 20 * (m / 9 + 1) + 15 := by
  have hp := pow_32 m
  have h1 := Nat.lt_of_lt_of_le h.1 hp
  have h2 := pow_moreK _ _ (Nat.lt_of_lt_of_le h.2 hp)
  rcases t with ⟨_, k1⟩ | ⟨_, a, b, k1, k2, rfl⟩
  · have := ztx_size k1 h1; omega
  · have e1 := ztx_size k1 h1
    have e2 := ztx_size k2 (K := m / 9 + 1 + 1) (by rw [Int.natAbs_natCast]; exact h2)
    rw [slash_size]; omega
end Go.Proofs.YtgojlegknlalpaaGreatDoor
