/- Whole numbers: Abs, Text. -/
import Derived.Test.YtjldlmonccgopaaDoorPk17
import Derived.Test.YtjldlmonccgopaaDoorZText
namespace Go.Proofs.YtjldlmonccgopaaDoor
open Go.RowKit
set_option linter.unusedVariables false
set_option maxRecDepth 100000
set_option linter.unusedSimpArgs false
attribute [local go_sem ↓] Go.wp_at_zero Go.wp_at_succ

theorem nat_lt {w : World} {a : Value} {m K : Nat} (h : NatIs w a m K) : m < 4294967296 ^ K := by
  obtain ⟨sl, L, h1, h2, h3, h4, h5, h6⟩ := h
  rw [← h5]
  exact Nat.lt_of_lt_of_le (val_lt h3) (Nat.pow_le_pow_right (by omega) h6)
theorem text_size {t : ByteArray} {m K : Nat} (h : Txt t) (hn : num t = m) (hm : m < 4294967296 ^ K) : t.size ≤ 10 * K + 1 := by
  rcases Nat.lt_or_ge (10 * K + 1) t.size with e | e
  · have h1 := dv_ge (s := t) (t.size - 1) (by have := h.2.1 (by omega); have := h.2.2 0 (by omega); omega)
    rw [show t.size - 1 + 1 = t.size by omega] at h1
    have h2 : (10 : Nat) ^ (10 * K) ≤ 10 ^ (t.size - 1) := Nat.pow_le_pow_right (by omega) (by omega)
    have h3 : 4294967296 ^ K ≤ (10 ^ 10) ^ K := Nat.pow_le_pow_left (by omega) K
    rw [← Nat.pow_mul] at h3
    unfold num at hn
    omega
  · exact e
set_option maxHeartbeats 800000 in
theorem ntext_below (w : World) (ao : Option Addr) (l c m K : Nat) (hK : K ≤ 1000000000) (na0 : NatIs w (.agg #[.slice ao l c]) m K) (htab : Tab w) :
    Calls Tryd.prog 7 #[.agg #[.slice ao l c, .bool true]] w fun e w' => (∃ t, e = .returned (.string (minus t)) ∧ Txt t ∧ num t = m) ∧ Below w.heap.size w w' := by
  have hB : Below w.heap.size w (w.alloc (Obj.cells #[.slice ao l c, .bool true] 26)) := (Below.refl _ _).alloc (Nat.le_refl _) _
  go_enter Tryd.func7, Tryd.ntmps7
  go_wp2_with fail
  refine (text_any _ _ _ K hK (na0.below hB) (htab.below hB)).mono ?_
  rintro e w1 ⟨⟨t, rfl, h1, h2⟩, hb1⟩
  have kB := chain2 hB hb1
  have hsz := text_size h1 h2 (nat_lt na0)
  have H := hid (And.intro h1 h2)
  clear h1 h2
  go_wp2
  exact bodyPost_ret (v := .string (minus t)) (by simp [results, Tryd.results7, go_sem, minus]) rfl ⟨⟨t, rfl, H.out⟩, kB⟩
set_option maxHeartbeats 800000 in
theorem ntext_above (w : World) (ao : Option Addr) (l c m K : Nat) (hK : K ≤ 1000000000) (na0 : NatIs w (.agg #[.slice ao l c]) m K) (htab : Tab w) :
    Calls Tryd.prog 7 #[.agg #[.slice ao l c, .bool false]] w fun e w' => (∃ t, e = .returned (.string t) ∧ Txt t ∧ num t = m) ∧ Below w.heap.size w w' := by
  have hB : Below w.heap.size w (w.alloc (Obj.cells #[.slice ao l c, .bool false] 26)) := (Below.refl _ _).alloc (Nat.le_refl _) _
  go_enter Tryd.func7, Tryd.ntmps7
  go_wp2_with fail
  refine (text_any _ _ _ K hK (na0.below hB) (htab.below hB)).mono ?_
  rintro e w1 ⟨⟨t, rfl, h1, h2⟩, hb1⟩
  have kB := chain2 hB hb1
  have H := hid (And.intro h1 h2)
  clear h1 h2
  go_wp2
  go_ret
  exact ⟨⟨t, rfl, H.out⟩, kB⟩
/-- Text: the number's text. -/
theorem ntext_any (w : World) (a : Value) (z : Int) (K : Nat) (hK : K ≤ 1000000000) (ha : NumIs w a z K) (htab : Tab w) :
    Calls Tryd.prog 7 #[a] w fun e w' => (∃ s, e = .returned (.string s) ∧ ZTx s z) ∧ Below w.heap.size w w' := by
  obtain ⟨ao, l, c, rfl, na⟩ := ha
  by_cases h : z < 0
  · rw [show decide (z < 0) = true by simp [h]]
    refine (ntext_below w ao l c _ K hK na htab).mono ?_
    rintro e w' ⟨⟨t, rfl, h1, h2⟩, hb⟩
    exact ⟨⟨_, rfl, Or.inr ⟨h, t, rfl, h1, h2⟩⟩, hb⟩
  · rw [show decide (z < 0) = false by simp; omega]
    refine (ntext_above w ao l c _ K hK na htab).mono ?_
    rintro e w' ⟨⟨t, rfl, h1, h2⟩, hb⟩
    exact ⟨⟨_, rfl, Or.inl ⟨by omega, h1, h2⟩⟩, hb⟩
end Go.Proofs.YtjldlmonccgopaaDoor
