/- The same for digits to the base of a thousand million. No program is named here. -/
import Derived.Test.YteelnimchlgdmaaDoorMath
namespace Go.Proofs.YteelnimchlgdmaaDoor.R

/-- What the first i limbs are worth. -/
def pv (L : List Nat) : Nat → Nat
  | 0 => 0
  | i + 1 => pv L i + lg L i * 1000000000 ^ i
def val (L : List Nat) : Nat := pv L L.length
/-- Each limb is a limb. -/
def Bd (L : List Nat) : Prop := ∀ j, lg L j < 1000000000
theorem Bd_set {L : List Nat} (hb : Bd L) (i x : Nat) (hx : x < 1000000000) : Bd (L.set i x) := by
  intro j
  by_cases e : i = j
  · by_cases h : i < L.length
    · subst e; rw [lg_set_same L i x h]; exact hx
    · rw [List.set_eq_of_length_le (by omega)]; exact hb j
  · rw [lg_set_other L i x j e]; exact hb j
theorem Bd_rep (n : Nat) : Bd (List.replicate n 0) := by intro j; rw [lg_rep]; omega

theorem pv_congr {L M : List Nat} {n : Nat} (h : ∀ j, j < n → lg L j = lg M j) : pv L n = pv M n := by
  induction n with
  | zero => rfl
  | succ n ih => simp only [pv]; rw [ih (fun j hj => h j (by omega)), h n (by omega)]
theorem pv_zero {L : List Nat} {n : Nat} (h : ∀ j, j < n → lg L j = 0) : pv L n = 0 := by
  induction n with
  | zero => rfl
  | succ n ih => simp only [pv]; rw [ih (fun j hj => h j (by omega)), h n (by omega)]; simp
theorem pv_ge (L : List Nat) (m n : Nat) (hz : ∀ j, m ≤ j → j < n → lg L j = 0) (h : m ≤ n) : pv L n = pv L m := by
  induction n with
  | zero => have : m = 0 := by omega
            subst this; rfl
  | succ n ih =>
    by_cases e : m = n + 1
    · subst e; rfl
    · simp only [pv]; rw [hz n (by omega) (by omega), ih (fun j h1 h2 => hz j h1 (by omega)) (by omega)]; simp
theorem pv_val (L : List Nat) (n : Nat) (h : L.length ≤ n) : pv L n = val L :=
  pv_ge L L.length n (fun j h1 _ => lg_past L j h1) h
theorem pv_lt {L : List Nat} (hb : Bd L) (n : Nat) : pv L n < 1000000000 ^ n := by
  induction n with
  | zero => simp [pv]
  | succ n ih =>
    simp only [pv, Nat.pow_succ]
    have h1 : lg L n + 1 ≤ 1000000000 := hb n
    have h2 : (lg L n + 1) * 1000000000 ^ n ≤ 1000000000 * 1000000000 ^ n := Nat.mul_le_mul_right _ h1
    rw [Nat.add_mul, Nat.one_mul] at h2
    rw [Nat.mul_comm (1000000000 ^ n) 1000000000]
    omega
theorem val_lt {L : List Nat} (hb : Bd L) : val L < 1000000000 ^ L.length := pv_lt hb _
theorem pv_set_past (L : List Nat) (i x n : Nat) (h : n ≤ i) : pv (L.set i x) n = pv L n :=
  pv_congr fun j hj => lg_set_other L i x j (by omega)
theorem pv_le (L : List Nat) (n m : Nat) (h : n ≤ m) : pv L n ≤ pv L m := by
  induction m with
  | zero => have : n = 0 := by omega
            subst this; exact Nat.le_refl _
  | succ m ih =>
    by_cases e : n = m + 1
    · subst e; exact Nat.le_refl _
    · have := ih (by omega); simp only [pv]; omega

/-- The order, from the top down. -/
theorem pv_lt_at {L M : List Nat} (hb : Bd L) (i n : Nat) (hi : i < n) (heq : ∀ j, i < j → j < n → lg L j = lg M j) (hlt : lg L i < lg M i) : pv L n < pv M n := by
  induction n with
  | zero => omega
  | succ n ih =>
    simp only [pv]
    by_cases e : i = n
    · subst e
      have h1 := pv_lt hb i
      have h2 : (lg L i + 1) * 1000000000 ^ i ≤ lg M i * 1000000000 ^ i := Nat.mul_le_mul_right _ hlt
      rw [Nat.add_mul, Nat.one_mul] at h2
      omega
    · have := ih (by omega) (fun j h1 h2 => heq j h1 (by omega))
      rw [heq n (by omega) (by omega)]
      omega
theorem val_lt_len {L M : List Nat} (hb : Bd L) (ht : Top M) (h : L.length < M.length) : val L < val M := by
  have h1 := val_lt hb
  have h2 : 1000000000 ^ L.length ≤ 1000000000 ^ (M.length - 1) := Nat.pow_le_pow_right (by omega) (by omega)
  have h3 : val M = pv M (M.length - 1) + lg M (M.length - 1) * 1000000000 ^ (M.length - 1) := by
    unfold val
    obtain ⟨m, hm⟩ : ∃ m, M.length = m + 1 := ⟨M.length - 1, by omega⟩
    rw [hm]; simp only [pv, Nat.add_sub_cancel]
  have h4 : 1 * 1000000000 ^ (M.length - 1) ≤ lg M (M.length - 1) * 1000000000 ^ (M.length - 1) :=
    Nat.mul_le_mul_right _ (by have := ht (by omega); omega)
  omega
/-- One number has one form. -/
theorem val_inj {L M : List Nat} (hl : Bd L) (hm : Bd M) (tl : Top L) (tm : Top M) (h : val L = val M) : L = M := by
  have hlen : L.length = M.length := by
    rcases Nat.lt_trichotomy L.length M.length with h1 | h1 | h1
    · have := val_lt_len hl tm h1; omega
    · exact h1
    · have := val_lt_len hm tl h1; omega
  refine list_ext_lg hlen ?_
  unfold val at h
  rw [← hlen] at h
  have key : ∀ n, pv L n = pv M n → ∀ j, j < n → lg L j = lg M j := by
    intro n
    induction n with
    | zero => intro _ j hj; omega
    | succ n ih =>
      intro he
      have e1 : lg L n = lg M n := by
        rcases Nat.lt_trichotomy (lg L n) (lg M n) with h1 | h1 | h1
        · have := pv_lt_at hl n (n + 1) (by omega) (fun j a b => by omega) h1; omega
        · exact h1
        · have := pv_lt_at hm n (n + 1) (by omega) (fun j a b => by omega) h1; omega
      have e2 : pv L n = pv M n := by simp only [pv] at he; rw [e1] at he; omega
      intro j hj
      by_cases e : j = n
      · rw [e]; exact e1
      · exact ih e2 j (by omega)
  intro j
  by_cases hj : j < L.length
  · exact key _ h j hj
  · rw [lg_past L j (by omega), lg_past M j (by omega)]

/-- What is left when noughts are taken off the end. -/
theorem take_val (L : List Nat) (k : Nat) (hk : k ≤ L.length) (hz : ∀ j, k ≤ j → lg L j = 0) : val (L.take k) = val L := by
  have h1 : (L.take k).length = k := by simp; omega
  have h2 : val (L.take k) = pv L k := by
    unfold val; rw [h1]
    exact pv_congr fun j hj => by simp [lg, List.getD, hj]
  rw [h2]
  exact (pv_ge L k L.length (fun j a _ => hz j a) hk).symm
theorem Bd_take {L : List Nat} (hb : Bd L) (k : Nat) : Bd (L.take k) := by
  intro j
  by_cases h : j < k
  · rw [lg_take L k j h]; exact hb j
  · rw [lg_past (L.take k) j (by simp; omega)]; omega
/-- A round of the addition. -/
theorem add_round (A B S : List Nat) (i c : Nat) (hi : i < S.length) (h : pv S i + c * 1000000000 ^ i = pv A i + pv B i) :
    pv (S.set i ((lg A i + lg B i + c) % 1000000000)) (i + 1) + (lg A i + lg B i + c) / 1000000000 * 1000000000 ^ (i + 1) = pv A (i + 1) + pv B (i + 1) := by
  simp only [pv]
  rw [pv_set_past S i _ i (Nat.le_refl _), lg_set_same S i _ hi, Nat.pow_succ]
  generalize 1000000000 ^ i = p at *
  have hd := Nat.div_add_mod (lg A i + lg B i + c) 1000000000
  generalize (lg A i + lg B i + c) % 1000000000 = r at *
  generalize (lg A i + lg B i + c) / 1000000000 = q at *
  have h2 : (1000000000 * q + r) * p = (lg A i + lg B i + c) * p := by rw [hd]
  rw [Nat.add_mul, Nat.add_mul, Nat.add_mul] at h2
  have h3 : q * (p * 1000000000) = 1000000000 * q * p := by rw [Nat.mul_comm p, ← Nat.mul_assoc, Nat.mul_comm q]
  rw [h3]
  omega
/-- A round of the scaling. -/
theorem scale_round (L S : List Nat) (f m i c : Nat) (hi : i < S.length) (h : pv S i + c * 1000000000 ^ i = pv L i * f + m) :
    pv (S.set i ((lg L i * f + c) % 1000000000)) (i + 1) + (lg L i * f + c) / 1000000000 * 1000000000 ^ (i + 1) = pv L (i + 1) * f + m := by
  simp only [pv]
  rw [pv_set_past S i _ i (Nat.le_refl _), lg_set_same S i _ hi, Nat.pow_succ]
  generalize 1000000000 ^ i = p at *
  have hd := Nat.div_add_mod (lg L i * f + c) 1000000000
  generalize (lg L i * f + c) % 1000000000 = r at *
  generalize (lg L i * f + c) / 1000000000 = q at *
  have h2 : (1000000000 * q + r) * p = (lg L i * f + c) * p := by rw [hd]
  rw [Nat.add_mul, Nat.add_mul] at h2
  have h3 : q * (p * 1000000000) = 1000000000 * q * p := by rw [Nat.mul_comm p, ← Nat.mul_assoc, Nat.mul_comm q]
  have h4 : (pv L i + lg L i * p) * f = pv L i * f + lg L i * f * p := by rw [Nat.add_mul, Nat.mul_right_comm]
  rw [h3, h4]
  omega
end Go.Proofs.YteelnimchlgdmaaDoor.R
