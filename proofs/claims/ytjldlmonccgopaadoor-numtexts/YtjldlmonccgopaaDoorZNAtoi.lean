/- What strconv.Atoi says of a whole number's text. -/
import Derived.Test.YtjldlmonccgopaaDoorPk0
import Derived.Lib.AtoiAll
namespace Go.Proofs.YtjldlmonccgopaaDoor
set_option linter.unusedVariables false

/-- The digits' worth, behind what the ones before spell. -/
def fol (acc : Nat) : List UInt8 → Nat
  | [] => acc
  | c :: r => fol (acc * 10 + (c.toNat - 48)) r
theorem fol_ge : ∀ (l : List UInt8) (acc : Nat), acc ≤ fol acc l
  | [], _ => Nat.le_refl _
  | c :: r, acc => Nat.le_trans (by omega) (fol_ge r _)
theorem fol_app : ∀ (l : List UInt8) (acc : Nat) (c : UInt8), fol acc (l ++ [c]) = fol acc l * 10 + (c.toNat - 48)
  | [], _, _ => rfl
  | d :: r, acc, c => fol_app r _ c
theorem parse_fol : ∀ (l : List UInt8) (acc : Nat), acc < 18446744073709551616 → (∀ c ∈ l, 48 ≤ c.toNat ∧ c.toNat ≤ 57) → (fol acc l < 18446744073709551616 ∧ Lib.parseUint10 acc l = .ok (fol acc l)) ∨ (18446744073709551616 ≤ fol acc l ∧ Lib.parseUint10 acc l = .range)
  | [], acc, h, _ => Or.inl ⟨h, rfl⟩
  | c :: r, acc, h, hd => by
    have hc := hd c (by simp)
    have hg := fol_ge r (acc * 10 + (c.toNat - 48))
    have e1 : fol acc (c :: r) = fol (acc * 10 + (c.toNat - 48)) r := rfl
    have e2 : Lib.parseUint10 acc (c :: r) = if 1844674407370955162 ≤ acc then .range else if 18446744073709551616 ≤ acc * 10 + (c.toNat - 48) then .range else Lib.parseUint10 (acc * 10 + (c.toNat - 48)) r := by
      rw [Lib.parseUint10, if_pos hc]
    rw [e1, e2]
    generalize hF : fol (acc * 10 + (c.toNat - 48)) r = F at *
    by_cases h1 : 1844674407370955162 ≤ acc
    · rw [if_pos h1]; exact Or.inr ⟨by omega, rfl⟩
    · rw [if_neg h1]
      by_cases h2 : 18446744073709551616 ≤ acc * 10 + (c.toNat - 48)
      · rw [if_pos h2]; exact Or.inr ⟨by omega, rfl⟩
      · rw [if_neg h2, ← hF]
        exact parse_fol r _ (by omega) (fun d hd' => hd d (by simp [hd']))
theorem fol_dv {s : ByteArray} (h : Txt s) : ∀ k, k ≤ s.size → fol 0 (s.data.toList.take k) = dv s k
  | 0, _ => rfl
  | k + 1, hk => by
    have hlt : k < s.data.toList.length := by show k < s.size; omega
    have e : s.data.toList.take (k + 1) = s.data.toList.take k ++ [s.data.toList[k]] := by
      rw [List.take_add_one]; simp [List.getElem?_eq_getElem hlt]
    have hb : (s.data.toList[k]).toNat = bt s k := by
      rw [← bt_at s k (by omega)]; rfl
    rw [e, fol_app, fol_dv h k (by omega), hb, dv]
theorem txt_mag {s : ByteArray} (h : Txt s) : (num s < 18446744073709551616 ∧ Lib.parseMag s.data.toList = .ok (num s)) ∨ (18446744073709551616 ≤ num s ∧ Lib.parseMag s.data.toList = .range) := by
  have hl : s.data.toList ≠ [] := by
    intro e
    have : s.data.toList.length = 0 := by rw [e]; rfl
    exact h.1 this
  unfold Lib.parseMag
  rw [if_neg hl]
  have e : fol 0 s.data.toList = num s := by
    have := fol_dv h s.size (Nat.le_refl _)
    rwa [List.take_of_length_le (by show s.size ≤ s.size; omega)] at this
  rw [← e]
  refine parse_fol _ 0 (by omega) ?_
  intro c hc
  obtain ⟨k, hk, rfl⟩ := List.getElem_of_mem hc
  have hb : (s.data.toList[k]).toNat = bt s k := by
    rw [← bt_at s k hk]; rfl
  rw [hb]
  exact h.2.2 k hk
/-- What stands behind the parsing. -/
theorem atoi_pos {c : UInt8} {r : List UInt8} (h : c.toNat ≠ 43 ∧ c.toNat ≠ 45) {u : Nat} (hm : Lib.parseMag (c :: r) = .ok u) : Lib.atoiAll (c :: r) = if 9223372036854775808 ≤ u then .range else .ok (u : Int) := by
  unfold Lib.atoiAll
  simp only
  rw [if_neg (show ¬ (c.toNat = 43 ∨ c.toNat = 45) by omega), hm]
  simp [h.2]
theorem atoi_over {c : UInt8} {r : List UInt8} (h : c.toNat ≠ 43 ∧ c.toNat ≠ 45) (hm : Lib.parseMag (c :: r) = .range) : Lib.atoiAll (c :: r) = .range := by
  unfold Lib.atoiAll
  simp only
  rw [if_neg (show ¬ (c.toNat = 43 ∨ c.toNat = 45) by omega), hm]
theorem atoi_neg {r : List UInt8} {u : Nat} (hm : Lib.parseMag r = .ok u) : Lib.atoiAll (45 :: r) = if 9223372036854775808 < u then .range else .ok (-(u : Int)) := by
  unfold Lib.atoiAll
  simp only
  rw [if_pos (show (45 : UInt8).toNat = 43 ∨ (45 : UInt8).toNat = 45 from Or.inr rfl), hm]
  simp
theorem atoi_under {r : List UInt8} (hm : Lib.parseMag r = .range) : Lib.atoiAll (45 :: r) = .range := by
  unfold Lib.atoiAll
  simp only
  rw [if_pos (show (45 : UInt8).toNat = 43 ∨ (45 : UInt8).toNat = 45 from Or.inr rfl), hm]
/-- Atoi of a number's text. -/
theorem ztx_atoi {s : ByteArray} {z : Int} (h : ZTx s z) : (-9223372036854775808 ≤ z ∧ z < 9223372036854775808 ∧ Lib.atoiAll s.data.toList = .ok z) ∨ ((z < -9223372036854775808 ∨ 9223372036854775808 ≤ z) ∧ Lib.atoiAll s.data.toList = .range) := by
  rcases h with ⟨h0, h1, h2⟩ | ⟨h0, t, rfl, h1, h2⟩
  · have hm := txt_mag h1
    have hlt : 0 < s.size := by have := h1.1; omega
    have hd := h1.2.2 0 hlt
    cases hl : s.data.toList with
    | nil => exact absurd (by rw [hl]; rfl : s.data.toList.length = 0) h1.1
    | cons c r =>
      have hb : c.toNat = bt s 0 := by
        rw [← bt_at s 0 hlt]
        show c.toNat = (s.data.toList[0]'(by rw [hl]; simp)).toNat
        simp [hl]
      rw [hl] at hm
      rcases hm with ⟨g1, g2⟩ | ⟨g1, g2⟩
      · have e := atoi_pos (by omega) g2
        by_cases hb' : 9223372036854775808 ≤ num s
        · rw [if_pos hb'] at e; exact Or.inr ⟨by omega, e⟩
        · rw [if_neg hb'] at e
          refine Or.inl ⟨by omega, by omega, ?_⟩
          rw [e, show (num s : Int) = z by omega]
      · exact Or.inr ⟨by omega, atoi_over (by omega) g2⟩
  · have hl : (minus t).data.toList = 45 :: t.data.toList := by
      unfold minus
      rw [ByteArray.data_append]; simp
    rw [hl]
    rcases txt_mag h1 with ⟨g1, g2⟩ | ⟨g1, g2⟩
    · have e := atoi_neg g2
      by_cases hb' : 9223372036854775808 < num t
      · rw [if_pos hb'] at e; exact Or.inr ⟨by omega, e⟩
      · rw [if_neg hb'] at e
        refine Or.inl ⟨by omega, by omega, ?_⟩
        rw [e, show -(num t : Int) = z by omega]
    · exact Or.inr ⟨by omega, atoi_under g2⟩
end Go.Proofs.YtjldlmonccgopaaDoor
