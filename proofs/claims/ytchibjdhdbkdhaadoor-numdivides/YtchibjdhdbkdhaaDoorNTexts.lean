/- Texts of whole numbers: digits, with a minus ahead of those of one below 0; one number has one text. No program is named here. -/
import Derived.Test.YtchibjdhdbkdhaaDoorTexts
namespace Go.Proofs.YtchibjdhdbkdhaaDoor

def minus (t : ByteArray) : ByteArray := ByteArray.mk #[45] ++ t
theorem minus_size (t : ByteArray) : (minus t).size = t.size + 1 := by
  unfold minus; rw [ByteArray.size_append]; show 1 + t.size = _; omega
theorem minus_head (t : ByteArray) : bt (minus t) 0 = 45 := by
  have h : 0 < (ByteArray.mk #[45] ++ t).size := by have := minus_size t; unfold minus at this; omega
  unfold minus
  rw [← bt_at _ _ h, ByteArray.getElem_append_left (by show 0 < 1; omega)]
  rfl
theorem minus_tail (t : ByteArray) (k : Nat) (hk : k < t.size) : bt (minus t) (k + 1) = bt t k := by
  have h : k + 1 < (ByteArray.mk #[45] ++ t).size := by have := minus_size t; unfold minus at this; omega
  unfold minus
  rw [← bt_at _ _ h, ← bt_at _ _ hk, ByteArray.getElem_append_right (by show 1 ≤ k + 1; omega)]
  rfl
theorem minus_inj {s t : ByteArray} (h : minus s = minus t) : s = t := by
  have hs : s.size = t.size := by have := congrArg ByteArray.size h; rw [minus_size, minus_size] at this; omega
  refine ext_bt hs fun k hk => ?_
  rw [← minus_tail s k hk, ← minus_tail t k (by omega), h]
theorem bt_extract (s : ByteArray) (k : Nat) (hk : k + 1 < s.size) : bt (s.extract 1 s.size) k = bt s (k + 1) := by
  have h : k < (s.extract 1 s.size).size := by simp; omega
  rw [← bt_at _ _ h, ← bt_at _ _ hk]
  simp [ByteArray.getElem_extract, Nat.add_comm]
theorem minus_split (s : ByteArray) (h : 0 < s.size) (h0 : bt s 0 = 45) : s = minus (s.extract 1 s.size) := by
  have hs : (s.extract 1 s.size).size = s.size - 1 := by simp
  refine ext_bt (by rw [minus_size, hs]; omega) fun k hk => ?_
  match k with
  | 0 => rw [h0, minus_head]
  | k + 1 => rw [minus_tail _ k (by omega), bt_extract s k hk]
/-- s is z's text. -/
def ZTx (s : ByteArray) (z : Int) : Prop := (0 ≤ z ∧ Txt s ∧ num s = z.natAbs) ∨ (z < 0 ∧ ∃ t, s = minus t ∧ Txt t ∧ num t = z.natAbs)
theorem txt_no_minus {s : ByteArray} (h : Txt s) : bt s 0 ≠ 45 := by
  have := h.2.2 0 (by have := h.1; omega); omega
theorem ZTx.inj {s t : ByteArray} {z : Int} (h : ZTx s z) (k : ZTx t z) : s = t := by
  rcases h with ⟨h1, h2, h3⟩ | ⟨h1, s', rfl, h2, h3⟩ <;> rcases k with ⟨k1, k2, k3⟩ | ⟨k1, t', rfl, k2, k3⟩
  · exact num_inj h2 k2 (by omega)
  · omega
  · omega
  · rw [num_inj h2 k2 (by omega)]
theorem ZTx.uniq {s : ByteArray} {z y : Int} (h : ZTx s z) (k : ZTx s y) : z = y := by
  rcases h with ⟨h1, h2, h3⟩ | ⟨h1, s', e1, h2, h3⟩ <;> rcases k with ⟨k1, k2, k3⟩ | ⟨k1, t', e2, k2, k3⟩
  · omega
  · rw [e2] at h2; exact absurd (minus_head _) (txt_no_minus h2)
  · rw [e1] at k2; exact absurd (minus_head _) (txt_no_minus k2)
  · rw [e1] at e2; rw [minus_inj e2] at h3; omega
theorem ZTx.nought {s : ByteArray} {z : Int} (h : ZTx s z) (t : ByteArray) (ht : Txt t) (h0 : num t = 0) : z = 0 ↔ s = t := by
  constructor
  · intro e
    exact h.inj (Or.inl ⟨by omega, ht, by omega⟩)
  · intro e
    rw [e] at h
    exact h.uniq (Or.inl ⟨Int.le_refl 0, ht, by omega⟩)
theorem ZTx.sign {s : ByteArray} {z : Int} (h : ZTx s z) : 0 < s.size ∧ (z < 0 ↔ bt s 0 = 45) := by
  rcases h with ⟨h1, h2, h3⟩ | ⟨h1, t, rfl, h2, h3⟩
  · exact ⟨by have := h2.1; omega, by have := txt_no_minus h2; omega⟩
  · exact ⟨by rw [minus_size]; omega, by rw [minus_head]; omega⟩
/-- Whether the bytes are a whole number's text, as both readers ask it. -/
theorem ztx_cases (s : ByteArray) : (bt s 0 ≠ 45 ∧ ((∃ z, 0 ≤ z ∧ ZTx s z ∧ Txt s ∧ z = (num s : Int)) ∨ (¬ Txt s ∧ ∀ z, ¬ ZTx s z))) ∨
    (bt s 0 = 45 ∧ 0 < s.size ∧ s = minus (s.extract 1 s.size) ∧ ((Txt (s.extract 1 s.size) ∧ num (s.extract 1 s.size) ≠ 0 ∧ ZTx s (-(num (s.extract 1 s.size) : Int))) ∨ (Txt (s.extract 1 s.size) ∧ num (s.extract 1 s.size) = 0 ∧ ∀ z, ¬ ZTx s z) ∨ (¬ Txt (s.extract 1 s.size) ∧ ∀ z, ¬ ZTx s z))) := by
  by_cases h : bt s 0 = 45
  · have hs : 0 < s.size := by
      rcases Nat.eq_zero_or_pos s.size with e | e
      · rw [bt, dif_neg (by omega)] at h; omega
      · exact e
    have hm := minus_split s hs h
    refine Or.inr ⟨h, hs, hm, ?_⟩
    have hno : ∀ z, ZTx s z → Txt (s.extract 1 s.size) ∧ num (s.extract 1 s.size) ≠ 0 := by
      intro z hz
      rcases hz with ⟨_, h2, _⟩ | ⟨h1, t, e, h2, h3⟩
      · exact absurd h (txt_no_minus h2)
      · have := minus_inj (hm.symm.trans e)
        rw [this]; exact ⟨h2, by omega⟩
    by_cases ht : Txt (s.extract 1 s.size)
    · by_cases h0 : num (s.extract 1 s.size) = 0
      · exact Or.inr (Or.inl ⟨ht, h0, fun z hz => (hno z hz).2 h0⟩)
      · exact Or.inl ⟨ht, h0, Or.inr ⟨by omega, _, hm, ht, by omega⟩⟩
    · exact Or.inr (Or.inr ⟨ht, fun z hz => ht (hno z hz).1⟩)
  · refine Or.inl ⟨h, ?_⟩
    by_cases ht : Txt s
    · exact Or.inl ⟨_, Int.natCast_nonneg _, Or.inl ⟨Int.natCast_nonneg _, ht, by omega⟩, ht, rfl⟩
    · refine Or.inr ⟨ht, fun z hz => ?_⟩
      rcases hz with ⟨_, h2, _⟩ | ⟨h1, t, e, h2, h3⟩
      · exact ht h2
      · rw [e] at h; exact h (minus_head t)
end Go.Proofs.YtchibjdhdbkdhaaDoor
