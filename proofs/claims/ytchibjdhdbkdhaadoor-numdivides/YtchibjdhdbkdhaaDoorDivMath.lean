/- Long division, in plain numbers: what holds of the rest and of the quotient's digits, round by round. No program is named here. -/
import Derived.Test.YtchibjdhdbkdhaaDoorMath
namespace Go.Proofs.YtchibjdhdbkdhaaDoor
set_option linter.unusedVariables false

/-- Ahead of the digit at place p - 1: R is the rest, Q the quotient so far. -/
def LongRel (R Q : List Nat) (Dv Av n c p : Nat) : Prop := R.length = n ∧ Bd R ∧ Q.length = c ∧ Bd Q ∧ (∀ j, j < p → lg Q j = 0) ∧ val R < Dv * 4294967296 ^ p ∧ val R + val Q * Dv = Av
/-- A digit g that was taken off; bl is 1 where the window has wrapped round. -/
def InRel (S : List Nat) (V0 Dv n off nb g bl : Nat) : Prop := S.length = n ∧ Bd S ∧ (∀ j, off + nb < j → lg S j = 0) ∧ g < 4294967296 ∧ bl ≤ 1 ∧ pv S (off + nb + 1) + g * Dv * 4294967296 ^ off = V0 + bl * 4294967296 ^ (off + nb + 1) ∧ V0 < (g + 1) * Dv * 4294967296 ^ off

theorem val_top (B : List Nat) (m nb : Nat) (hl : B.length = nb) (hm : nb = m + 1) : val B = pv B m + lg B m * 4294967296 ^ m := by
  unfold val; rw [hl, hm]; simp only [pv]
theorem val_ge_top (B : List Nat) (m nb : Nat) (hl : B.length = nb) (hm : nb = m + 1) (ht : lg B m ≠ 0) : 4294967296 ^ m ≤ val B := by
  rw [val_top B m nb hl hm]
  have : 1 * 4294967296 ^ m ≤ lg B m * 4294967296 ^ m := Nat.mul_le_mul_right _ (by omega)
  omega
theorem pow_pos32 (n : Nat) : 0 < 4294967296 ^ n := Nat.pow_pos (by decide)
/-- The divisor moved up: it keeps its length, and its last limb is not 0. -/
theorem up_take (B M : List Nat) (nb m s : Nat) (hB : Bd B) (hM : Bd M) (hBl : B.length = nb) (hm : nb = m + 1) (hMl : M.length = nb + 1) (ht : lg B m ≠ 0) (hs : lg B m * 2 ^ s < 4294967296) (hv : val M = val B * 2 ^ s) :
    (M.take nb).length = nb ∧ Bd (M.take nb) ∧ val (M.take nb) = val B * 2 ^ s ∧ lg (M.take nb) m ≠ 0 := by
  have hl : (M.take nb).length = nb := by simp; omega
  have hvB := val_top B m nb hBl hm
  have hlt := pv_lt hB m
  have hp := Nat.two_pow_pos s
  have hPp := pow_pos32 m
  have h1 : val B * 2 ^ s < 4294967296 ^ nb := by
    have a2 : val B + 1 ≤ (lg B m + 1) * 4294967296 ^ m := by rw [Nat.add_mul]; omega
    have e : 4294967296 ^ nb = 4294967296 * 4294967296 ^ m := by rw [hm, Nat.pow_succ, Nat.mul_comm]
    -- lg B m * 2^s + 2^s <= 2^32, as both are multiples of 2^s
    have hs32 : s ≤ 32 := by
      rcases Nat.lt_or_ge 32 s with h | h
      · have : 2 ^ 32 ≤ 2 ^ s := Nat.pow_le_pow_right (by decide) (by omega)
        have : 1 * 2 ^ s ≤ lg B m * 2 ^ s := Nat.mul_le_mul_right _ (by omega)
        omega
      · exact h
    obtain ⟨t, hst⟩ : ∃ t, s + t = 32 := ⟨32 - s, by omega⟩
    have e32 : (4294967296 : Nat) = 2 ^ t * 2 ^ s := by rw [← Nat.pow_add, show t + s = 32 by omega]
    have a3 : lg B m + 1 ≤ 2 ^ t := by
      rw [e32] at hs
      exact Nat.lt_of_mul_lt_mul_right hs
    have a4 : val B + 1 ≤ 2 ^ t * 4294967296 ^ m := Nat.le_trans a2 (Nat.mul_le_mul_right _ a3)
    have a5 : (val B + 1) * 2 ^ s ≤ 2 ^ t * 4294967296 ^ m * 2 ^ s := Nat.mul_le_mul_right _ a4
    have e2 : 2 ^ t * 4294967296 ^ m * 2 ^ s = 4294967296 ^ nb := by
      rw [e, Nat.mul_right_comm, ← e32]
    rw [e2, Nat.add_mul] at a5
    omega
  have hz : ∀ j, nb ≤ j → lg M j = 0 := by
    intro j hj
    by_cases hj2 : nb + 1 ≤ j
    · exact lg_past M j (by omega)
    · have hj3 : j = nb := by omega
      subst hj3
      have hvM : val M = pv M j + lg M j * 4294967296 ^ j := by unfold val; rw [hMl]; simp only [pv]
      rcases Nat.eq_zero_or_pos (lg M j) with h0 | h0
      · exact h0
      · have : 1 * 4294967296 ^ j ≤ lg M j * 4294967296 ^ j := Nat.mul_le_mul_right _ h0
        omega
  have htv : val (M.take nb) = val B * 2 ^ s := by rw [take_val M nb (by omega) hz]; exact hv
  refine ⟨hl, Bd_take hM nb, htv, ?_⟩
  intro h0
  have h2 := val_top (M.take nb) m nb hl hm
  rw [h0] at h2
  have h3 := pv_lt (Bd_take hM nb) m
  have h4 := val_ge_top B m nb hBl hm ht
  have h5 : val B * 1 ≤ val B * 2 ^ s := Nat.mul_le_mul_left _ hp
  omega
theorem div_begin (A B N : List Nat) (na nb m c s : Nat) (hA : Bd A) (hAl : A.length = na) (hBl : B.length = nb) (hm : nb = m + 1) (hab : nb ≤ na) (hc : c = na - nb + 1) (ht : lg B m ≠ 0) (hN : Bd N) (hNl : N.length = na + 1) (hNv : val N = val A * 2 ^ s) :
    LongRel N (List.replicate c 0) (val B * 2 ^ s) (val A * 2 ^ s) (na + 1) c c := by
  have hz : val (List.replicate c 0) = 0 := pv_zero fun j _ => lg_rep c j
  refine ⟨hNl, hN, by simp, Bd_rep c, fun j _ => lg_rep c j, ?_, by rw [hz, hNv]; simp⟩
  have h1 := val_lt hA
  rw [hAl, show na = m + c by omega, Nat.pow_add] at h1
  have h2 := val_ge_top B m nb hBl hm ht
  have h3 : 4294967296 ^ m * 4294967296 ^ c ≤ val B * 4294967296 ^ c := Nat.mul_le_mul_right _ h2
  have h4 : val A < val B * 4294967296 ^ c := by omega
  rw [hNv, Nat.mul_right_comm]
  exact Nat.mul_lt_mul_of_pos_right h4 (Nat.two_pow_pos s)
/-- A number below a power has noughts above. -/
theorem high_zero {R : List Nat} (hb : Bd R) (k : Nat) (h : val R < 4294967296 ^ k) : ∀ j, k ≤ j → lg R j = 0 := by
  intro j hj
  rcases Nat.eq_zero_or_pos (lg R j) with h0 | h0
  · exact h0
  · exfalso
    have hjl : j < R.length := by
      rcases Nat.lt_or_ge j R.length with h1 | h1
      · exact h1
      · rw [lg_past R j h1] at h0; omega
    have h1 : pv R (j + 1) ≤ val R := pv_le R (j + 1) R.length hjl
    simp only [pv] at h1
    have h2 : 4294967296 ^ k ≤ 4294967296 ^ j := Nat.pow_le_pow_right (by decide) hj
    have h3 : 1 * 4294967296 ^ j ≤ lg R j * 4294967296 ^ j := Nat.mul_le_mul_right _ h0
    omega
theorem val_pv (R : List Nat) (k : Nat) (hz : ∀ j, k ≤ j → lg R j = 0) : val R = pv R k := by
  rcases Nat.le_total k R.length with h | h
  · exact pv_ge R k R.length (fun j h1 _ => hz j h1) h
  · exact (pv_val R k h).symm
/-- The window's worth by its top two limbs. -/
theorem pv_two (R : List Nat) (off m nb : Nat) (hm : nb = m + 1) : pv R (off + nb + 1) = pv R (off + m) + (lg R (off + nb) * 4294967296 + lg R (off + m)) * 4294967296 ^ (off + m) := by
  subst hm
  have e : off + (m + 1) = off + m + 1 := by omega
  rw [e]
  generalize off + m = k
  simp only [pv]
  rw [Nat.pow_succ, Nat.add_mul, Nat.mul_assoc, Nat.mul_comm 4294967296 (4294967296 ^ k)]
  omega
theorem div_guess (R Q D : List Nat) (Dv Av n c off nb m : Nat) (hR : LongRel R Q Dv Av n c (off + 1)) (hD : Bd D) (hDl : D.length = nb) (hm : nb = m + 1) (hDv : val D = Dv) (hd0 : lg D m ≠ 0) :
    (∀ j, off + nb < j → lg R j = 0) ∧ val R = pv R (off + nb + 1) ∧ pv R (off + nb + 1) < (min ((lg R (off + nb) * 4294967296 + lg R (off + m)) / lg D m) 4294967295 + 1) * Dv * 4294967296 ^ off := by
  obtain ⟨h1, h2, h3, h4, h5, h6, h7⟩ := hR
  have hDlt : Dv < 4294967296 ^ nb := by have := val_lt hD; rw [hDl, hDv] at this; exact this
  have hlt : val R < 4294967296 ^ (off + nb + 1) := by
    have : Dv * 4294967296 ^ (off + 1) ≤ 4294967296 ^ nb * 4294967296 ^ (off + 1) := Nat.mul_le_mul_right _ (by omega)
    rw [← Nat.pow_add, show nb + (off + 1) = off + nb + 1 by omega] at this
    omega
  have hz := high_zero h2 _ hlt
  have hv := val_pv R _ hz
  refine ⟨fun j hj => hz j (by omega), hv, ?_⟩
  have htwo := pv_two R off m nb hm
  have hlow := pv_lt h2 (off + m)
  have hdv := val_top D m nb hDl hm
  have hpo := pow_pos32 off
  have hpm := pow_pos32 m
  rw [← hv] at htwo ⊢
  generalize val R = V at *
  generalize lg R (off + nb) * 4294967296 + lg R (off + m) = top at *
  have hdt : 0 < lg D m := by omega
  generalize lg D m = dt at *
  rcases Nat.le_total (top / dt) 4294967295 with hq | hq
  · rw [show min (top / dt) 4294967295 = top / dt by omega]
    have h8 : top + 1 ≤ (top / dt + 1) * dt := by
      have := Nat.div_add_mod top dt
      have h9 := Nat.mod_lt top hdt
      rw [Nat.add_mul, Nat.one_mul, Nat.mul_comm (top / dt)]
      omega
    generalize top / dt = q at *
    have h9 : (top + 1) * 4294967296 ^ (off + m) ≤ (q + 1) * dt * 4294967296 ^ (off + m) := Nat.mul_le_mul_right _ h8
    have h10 : (q + 1) * dt * 4294967296 ^ (off + m) = (q + 1) * (dt * 4294967296 ^ m) * 4294967296 ^ off := by
      rw [Nat.pow_add, Nat.mul_comm (4294967296 ^ off), ← Nat.mul_assoc, Nat.mul_assoc (q + 1)]
    have h11 : (q + 1) * (dt * 4294967296 ^ m) * 4294967296 ^ off ≤ (q + 1) * Dv * 4294967296 ^ off := Nat.mul_le_mul_right _ (Nat.mul_le_mul_left _ (by omega))
    rw [Nat.add_mul] at h9
    omega
  · rw [show min (top / dt) 4294967295 = 4294967295 by omega]
    rw [Nat.pow_succ, Nat.mul_comm (4294967296 ^ off), ← Nat.mul_assoc, Nat.mul_comm Dv] at h6
    exact h6
theorem in_first (R S : List Nat) (V0 Dv n off nb g b : Nat) (hz : ∀ j, off + nb < j → lg R j = 0) (hV : pv R (off + nb + 1) = V0) (hg : g < 4294967296) (hlt : V0 < (g + 1) * Dv * 4294967296 ^ off)
    (hl : S.length = n) (hb : Bd S) (hb1 : b ≤ 1) (hk : ∀ j, off + nb < j → lg S j = lg R j) (hv : pv S (off + nb + 1) + g * Dv * 4294967296 ^ off = pv R (off + nb + 1) + b * 4294967296 ^ (off + nb + 1)) : InRel S V0 Dv n off nb g b :=
  ⟨hl, hb, fun j hj => by rw [hk j hj]; exact hz j hj, hg, hb1, by rw [hv, hV], hlt⟩
theorem in_pos {S : List Nat} {V0 Dv n off nb g : Nat} (h : InRel S V0 Dv n off nb g 1) : 1 ≤ g := by
  obtain ⟨h1, h2, h3, h4, h5, h6, h7⟩ := h
  have hlt := pv_lt h2 (off + nb + 1)
  rw [Nat.one_mul] at h6
  rcases Nat.eq_zero_or_pos g with h0 | h0
  · subst h0; rw [Nat.zero_mul, Nat.zero_mul] at h6; omega
  · exact h0
theorem in_next (S P : List Nat) (V0 Dv n off nb g b : Nat) (h : InRel S V0 Dv n off nb g 1) (hl : P.length = n) (hb : Bd P) (hb1 : b ≤ 1) (hk : ∀ j, off + nb < j → lg P j = lg S j)
    (hv : pv P (off + nb + 1) + b * 4294967296 ^ (off + nb + 1) = pv S (off + nb + 1) + Dv * 4294967296 ^ off) : 1 ≤ g ∧ InRel P V0 Dv n off nb (g - 1) (1 - b) := by
  obtain ⟨h1, h2, h3, h4, h5, h6, h7⟩ := h
  have hlt := pv_lt h2 (off + nb + 1)
  rw [Nat.one_mul] at h6
  have hg : 1 ≤ g := by
    rcases Nat.eq_zero_or_pos g with h0 | h0
    · subst h0; rw [Nat.zero_mul, Nat.zero_mul] at h6; omega
    · exact h0
  obtain ⟨k, rfl⟩ : ∃ k, g = k + 1 := ⟨g - 1, by omega⟩
  rw [Nat.add_sub_cancel]
  refine ⟨hg, hl, hb, fun j hj => by rw [hk j hj]; exact h3 j hj, by omega, by omega, ?_, by omega⟩
  have e : (k + 1) * Dv * 4294967296 ^ off = k * Dv * 4294967296 ^ off + Dv * 4294967296 ^ off := by rw [Nat.add_mul, Nat.one_mul, Nat.add_mul]
  rw [e] at h6
  rcases (show b = 0 ∨ b = 1 by omega) with rfl | rfl
  · simp only [Nat.zero_mul, Nat.sub_zero, Nat.one_mul] at *; omega
  · simp only [Nat.zero_mul, Nat.sub_self, Nat.one_mul] at *; omega
theorem val_set (Q : List Nat) (off g : Nat) (h : off < Q.length) (h0 : lg Q off = 0) : val (Q.set off g) = val Q + g * 4294967296 ^ off := by
  unfold val
  rw [List.length_set]
  have key : ∀ k, pv (Q.set off g) k = pv Q k + if off < k then g * 4294967296 ^ off else 0 := by
    intro k
    induction k with
    | zero => simp [pv]
    | succ k ih =>
      simp only [pv]
      rw [ih]
      by_cases e : off = k
      · subst e
        rw [lg_set_same Q off g h, h0]; simp
      · rw [lg_set_other Q off g k e]
        by_cases e2 : off < k
        · rw [if_pos e2, if_pos (by omega)]; omega
        · rw [if_neg e2, if_neg (by omega)]; omega
  rw [key, if_pos h]
theorem div_next (R S Q : List Nat) (Dv Av n c off nb g : Nat) (hR : LongRel R Q Dv Av n c (off + 1)) (hoc : off < c) (h : InRel S (val R) Dv n off nb g 0) : LongRel S (Q.set off g) Dv Av n c off := by
  obtain ⟨h1, h2, h3, h4, h5, h6, h7⟩ := hR
  obtain ⟨g1, g2, g3, g4, g5, g6, g7⟩ := h
  have hv := val_pv S (off + nb + 1) (fun j hj => g3 j (by omega))
  rw [Nat.zero_mul, Nat.add_zero, ← hv] at g6
  refine ⟨g1, g2, by rw [List.length_set]; exact h3, Bd_set h4 _ _ g4, fun j hj => ?_, ?_, ?_⟩
  · rw [lg_set_other Q off g j (by omega)]; exact h5 j (by omega)
  · rw [Nat.add_mul, Nat.one_mul, Nat.add_mul] at g7
    omega
  · rw [val_set Q off g (by omega) (h5 off (by omega)), Nat.add_mul, Nat.mul_right_comm g]
    omega
theorem div_end (R Q : List Nat) (Av Bv n c s : Nat) (hR : LongRel R Q (Bv * 2 ^ s) (Av * 2 ^ s) n c 0) : val Q = Av / Bv ∧ val R / 2 ^ s = Av % Bv := by
  obtain ⟨h1, h2, h3, h4, h5, h6, h7⟩ := hR
  have hp := Nat.two_pow_pos s
  simp only [Nat.pow_zero, Nat.mul_one] at h6
  have e : val Q * (Bv * 2 ^ s) = val Q * Bv * 2 ^ s := by rw [Nat.mul_assoc]
  rw [e] at h7
  generalize val Q = q at *
  generalize val R = r at *
  have hB : 0 < Bv := by
    rcases Nat.eq_zero_or_pos Bv with h0 | h0
    · subst h0; simp at h6
    · exact h0
  have hle : q * Bv ≤ Av := by
    have : q * Bv * 2 ^ s ≤ Av * 2 ^ s := by omega
    exact Nat.le_of_mul_le_mul_right this hp
  obtain ⟨d, hd⟩ : ∃ d, Av = q * Bv + d := ⟨Av - q * Bv, by omega⟩
  have hr : r = d * 2 ^ s := by rw [hd, Nat.add_mul] at h7; omega
  have hdB : d < Bv := by rw [hr] at h6; exact Nat.lt_of_mul_lt_mul_right h6
  rw [hr, Nat.mul_div_cancel _ hp, hd]
  constructor
  · rw [Nat.mul_comm q, Nat.mul_add_div hB, Nat.div_eq_of_lt hdB]; omega
  · rw [Nat.mul_comm q, Nat.mul_add_mod, Nat.mod_eq_of_lt hdB]
end Go.Proofs.YtchibjdhdbkdhaaDoor
