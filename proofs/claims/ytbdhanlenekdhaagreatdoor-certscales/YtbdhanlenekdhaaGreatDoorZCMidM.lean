/- cert: middles, steps and multiples, plainly; texts that are made. -/
import Derived.Test.YtbdhanlenekdhaaGreatDoorPk42
namespace Go.Proofs.YtbdhanlenekdhaaGreatDoor
open Go.RowKit
set_option linter.unusedVariables false
set_option maxRecDepth 100000
set_option linter.unusedSimpArgs false

def mid (X Y : List Rat) : List Rat := List.zipWith (fun a b => (a + b) * (1 / 2)) X Y
theorem mid_len (X Y : List Rat) (h : X.length = Y.length) : (mid X Y).length = X.length := by simp [mid, h]
theorem mid_at (X Y : List Rat) (i : Nat) (h1 : i < X.length) (h2 : i < Y.length) (h3 : i < (mid X Y).length) : (mid X Y)[i] = (X[i] + Y[i]) * (1 / 2) := by simp [mid]
theorem dot_mid : ∀ (f : List Int) (X Y : List Rat), X.length = Y.length → dot f (mid X Y) = (dot f X + dot f Y) * (1 / 2)
  | [], X, Y, _ => by simp [dot]; grind
  | a :: f, [], [], _ => by simp [mid, dot]; grind
  | a :: f, [], d :: D, h => by simp at h
  | a :: f, x :: X, [], h => by simp at h
  | a :: f, x :: X, d :: D, h => by
    have ih := dot_mid f X D (by simpa using h)
    simp only [mid, List.zipWith_cons_cons, dot] at ih ⊢
    rw [ih]
    grind
theorem half_num : (1 / 2 : Rat).num = 1 := by decide +kernel
theorem half_den : (1 / 2 : Rat).den = 2 := by decide +kernel
theorem half_pos : (0 : Rat) ≤ 1 / 2 := by decide +kernel
theorem nng_mid {X Y : List Rat} (h : X.length = Y.length) (hX : nng X) (hY : nng Y) : nng (mid X Y) := fun i hi => by
  have h1 : i < X.length := by rw [mid_len _ _ h] at hi; exact hi
  rw [mid_at X Y i h1 (by omega) hi]
  have a := hX i h1
  have b := hY i (by omega)
  exact Rat.mul_nonneg (by grind) half_pos
theorem gps_mid {M : List (List Int)} {E b : List Int} {X Y : List Rat} (h : X.length = Y.length) (hX : gps M E X b) (hY : gps M E Y b) : gps M E (mid X Y) b := fun i h1 h2 h3 => by
  rw [dot_mid _ _ _ h]
  exact gap_mid (hX i h1 h2 h3) (hY i h1 h2 h3)
theorem nng_lin {X D : List Rat} {n : Rat} (hn : 0 < n) (h : X.length = D.length) (hX : nng X) (hD : nng D) : nng (lin n X D) := fun i hi => by
  have h1 : i < X.length := by simp [lin, h] at hi; omega
  have h2 : i < D.length := by omega
  have e : (lin n X D)[i] = X[i] + D[i] * n := by simp [lin]
  rw [e]
  have a := hX i h1
  have b := Rat.mul_nonneg (hD i h2) (Rat.le_of_lt hn)
  grind
theorem gps_lin {M : List (List Int)} {E b : List Int} {X D : List Rat} {n : Rat} (hn : 0 < n) (h : X.length = D.length) (hl : b.length = M.length) (hX : gps M E X b) (hD : gps M E D (List.replicate b.length 0)) : gps M E (lin n X D) b := fun i h1 h2 h3 => by
  rw [dot_lin n _ _ _ h]
  have := hD i h1 h2 (by rw [List.length_replicate]; exact h3)
  rw [List.getElem_replicate] at this
  exact gap_add hn (hX i h1 h2 h3) this
theorem sgs_scale {E : List Int} {Y : List Rat} {n : Rat} (hn : 0 < n) : sgs E (Y.map (fun x => x * n)) ↔ sgs E Y := by
  have key : ∀ x : Rat, sgnR (x * n) = sgnR x := fun x => by
    unfold sgnR
    rw [Rat.mul_comm]
    simp only [Rat.mul_neg_iff_of_pos_left hn, Rat.mul_pos_iff_of_pos_left hn]
  constructor
  · intro h i h1 h2
    have := h i (by simpa using h1) h2
    rwa [List.getElem_map, key] at this
  · intro h i h1 h2
    have := h i (by simpa using h1) h2
    rwa [List.getElem_map, key]
theorem mul_le_pos {n a b : Rat} (hn : 0 < n) : n * a ≤ n * b ↔ a ≤ b := by
  rw [← Rat.not_lt, ← Rat.not_lt, Rat.mul_lt_mul_left hn]
theorem cvs_scale {M : List (List Int)} {Y : List Rat} {c : List Int} {n : Int} (hn : 0 < n) : cvs M (Y.map (fun x => x * (n : Rat))) (c.map (fun a => a * n)) ↔ cvs M Y c := by
  have hn' : (0 : Rat) < (n : Rat) := Rat.intCast_pos.2 hn
  constructor
  · intro h i h1
    have := h i (by simpa using h1)
    rw [dot_scale, List.getElem_map, Rat.intCast_mul, Rat.mul_comm (c[i] : Rat)] at this
    exact (mul_le_pos hn').1 this
  · intro h i h1
    have := h i (by simpa using h1)
    rw [dot_scale, List.getElem_map, Rat.intCast_mul, Rat.mul_comm (c[i]'(by simpa using h1) : Rat)]
    exact (mul_le_pos hn').2 this
theorem cvs_zero {M : List (List Int)} {Y : List Rat} {k : Nat} {n : Rat} (hn : 0 < n) : cvs M (Y.map (fun x => x * n)) (List.replicate k 0) ↔ cvs M Y (List.replicate k 0) := by
  constructor
  · intro h i h1
    have := h i h1
    rw [dot_scale, List.getElem_replicate] at this
    rw [List.getElem_replicate]
    have e : ((0 : Int) : Rat) = n * ((0 : Int) : Rat) := by simp
    rw [e] at this
    exact (mul_le_pos hn).1 this
  · intro h i h1
    have := h i h1
    rw [List.getElem_replicate] at this
    rw [dot_scale, List.getElem_replicate]
    have e : ((0 : Int) : Rat) = n * ((0 : Int) : Rat) := by simp
    rw [e]
    exact (mul_le_pos hn).2 this
/-- The texts of these numbers. -/
structure TxL (Z : List ByteArray) (Y : List Rat) : Prop where
  len : Z.length = Y.length
  is_ : ∀ i (h1 : i < Z.length) (h2 : i < Y.length), TxR Z[i] Y[i]
theorem TxL.nil : TxL [] [] := ⟨rfl, fun i h => by simp at h⟩
theorem TxL.push {Z : List ByteArray} {Y : List Rat} {k : Nat} {s : ByteArray} (h : TxL Z (Y.take k)) (hk : k < Y.length) (hs : TxR s Y[k]) : TxL (Z ++ [s]) (Y.take (k + 1)) := by
  have hl : Z.length = k := by rw [h.len, List.length_take]; omega
  refine ⟨by rw [List.length_append, hl, List.length_take]; simp; omega, fun i h1 h2 => ?_⟩
  rw [List.getElem_take]
  by_cases hi : i < k
  · rw [List.getElem_append_left (by omega)]
    have := h.is_ i (by omega) (by rw [List.length_take]; omega)
    rwa [List.getElem_take] at this
  · have e : i = k := by rw [List.length_take] at h2; omega
    subst e
    rw [List.getElem_append_right (by omega)]
    simpa [hl] using hs
theorem TxL.nums {Z : List ByteArray} {Y : List Rat} (h : TxL Z Y) : Nums Z Y := ⟨h.len.symm, fun i h1 h2 => txr_can' (h.is_ i h1 h2)⟩
theorem TxL.small {Z : List ByteArray} {Y : List Rat} (h : TxL Z Y) (hY : ∀ y ∈ Y, Lt10 298 y) : ∀ s ∈ Z, s.size ≤ 600 := fun s hs => by
  obtain ⟨i, hi, rfl⟩ := List.getElem_of_mem hs
  have h2 : i < Y.length := by rw [← h.len]; exact hi
  have := txr_len (h.is_ i hi h2) (hY _ (List.getElem_mem h2)) (by omega)
  omega
theorem strs_own {w : World} {base : Nat} {v : Value} {Z : List ByteArray} {k : Nat} (h : w.ownsRow base 9 1 v k (strV Z)) (hk : Z.length = k) (hz : ∀ s ∈ Z, s.size ≤ 600) : Strs w v Z := by
  subst hk
  refine ⟨Row1.of_own (base := base) (e := 9) (by rw [strV_len]; exact h), fun x hx => ?_⟩
  have := hz x hx
  unfold maxLen
  omega
theorem tx_half : TxR ⟨#[49, 47, 50]⟩ (1 / 2 : Rat) := by
  unfold TxR
  rw [half_num, half_den]
  refine Or.inr ⟨by decide, ⟨#[49]⟩, ⟨#[50]⟩, Or.inl ⟨by decide, ⟨by decide, by decide, ?_⟩, by decide⟩, Or.inl ⟨by decide, ⟨by decide, by decide, ?_⟩, by decide⟩, by decide⟩
  · intro k hk
    have : k = 0 := by have : (⟨#[49]⟩ : ByteArray).size = 1 := rfl; omega
    subst this; decide
  · intro k hk
    have : k = 0 := by have : (⟨#[50]⟩ : ByteArray).size = 1 := rfl; omega
    subst this; decide
theorem Lt10.half : Lt10 1 (1 / 2 : Rat) := ⟨by rw [half_num]; decide, by rw [half_den]; decide⟩
theorem nums_at {S : List ByteArray} {X : List Rat} (h : Nums S X) (i : Nat) (h1 : i < X.length) (h2 : i < S.length) : Lt10 (S[i].size + 1) X[i] := canr_lt (h.is_ i h2 h1)
theorem pair_sz {S D : List ByteArray} (h : szM [S, D] ≤ 256) (i j : Nat) (h1 : i < S.length) (h2 : j < D.length) : S[i].size + D[j].size ≤ 256 := by
  have a := szL_mem (List.getElem_mem h1)
  have b := szL_mem (List.getElem_mem h2)
  have : szM [S, D] = szL S + szL D := by simp [szM]
  omega
end Go.Proofs.YtbdhanlenekdhaaGreatDoor
