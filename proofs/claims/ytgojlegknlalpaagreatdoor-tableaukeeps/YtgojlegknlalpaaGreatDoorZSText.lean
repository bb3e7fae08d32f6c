/- The document's whole numbers: Sub, Cmp, Text. -/
import Derived.Test.YtgojlegknlalpaaGreatDoorPk19
import Derived.Test.YtgojlegknlalpaaGreatDoorZRText
import Derived.Test.YtgojlegknlalpaaGreatDoorPk26
namespace Go.Proofs.YtgojlegknlalpaaGreatDoor
open Go.RowKit
set_option linter.unusedVariables false
set_option maxRecDepth 100000
set_option linter.unusedSimpArgs false
attribute [local go_sem ↓] Go.wp_at_zero Go.wp_at_succ

theorem ref_lt {w : World} {a : Value} {m K : Nat} (h : RefIs w a m K) : m < 4294967296 ^ K := by
  obtain ⟨sl, L, h1, h2, h3, h4, h5, h6⟩ := h
  rw [← h5]
  exact Nat.lt_of_lt_of_le (R.val_lt h3) (Nat.le_trans (Nat.pow_le_pow_right (by omega) h6) (Nat.pow_le_pow_left (by omega) K))
theorem signZ_sub (x y : Int) : signZ (x - y) = cmpZ x y := by unfold signZ cmpZ; (repeat' split) <;> omega
set_option maxHeartbeats 800000 in
theorem stext_below (w : World) (ao : Option Addr) (l c m K : Nat) (hK : K ≤ 1000000000) (na0 : RefIs w (.agg #[.slice ao l c]) m K)  :
    Calls Tryz.prog 50 #[.agg #[.bool true, .slice ao l c]] w fun e w' => (∃ t, e = .returned (.string (minus t)) ∧ Txt t ∧ num t = m) ∧ Below w.heap.size w w' := by
  have hB : Below w.heap.size w (w.alloc (Obj.cells #[.bool true, .slice ao l c] 72)) := (Below.refl _ _).alloc (Nat.le_refl _) _
  go_enter Tryz.func50, Tryz.ntmps50
  go_wp2_with fail
  refine (rtext_any _ _ _ K hK (na0.below hB)).mono ?_
  rintro e w1 ⟨⟨t, rfl, h1, h2⟩, hb1⟩
  have kB := chain2 hB hb1
  have hsz := text_size h1 h2 (ref_lt na0)
  have H := hid (And.intro h1 h2)
  clear h1 h2
  go_wp2
  exact bodyPost_ret (v := .string (minus t)) (by simp [results, Tryz.results50, go_sem, minus]) rfl ⟨⟨t, rfl, H.out⟩, kB⟩
set_option maxHeartbeats 800000 in
theorem stext_above (w : World) (ao : Option Addr) (l c m K : Nat) (hK : K ≤ 1000000000) (na0 : RefIs w (.agg #[.slice ao l c]) m K)  :
    Calls Tryz.prog 50 #[.agg #[.bool false, .slice ao l c]] w fun e w' => (∃ t, e = .returned (.string t) ∧ Txt t ∧ num t = m) ∧ Below w.heap.size w w' := by
  have hB : Below w.heap.size w (w.alloc (Obj.cells #[.bool false, .slice ao l c] 72)) := (Below.refl _ _).alloc (Nat.le_refl _) _
  go_enter Tryz.func50, Tryz.ntmps50
  go_wp2_with fail
  refine (rtext_any _ _ _ K hK (na0.below hB)).mono ?_
  rintro e w1 ⟨⟨t, rfl, h1, h2⟩, hb1⟩
  have kB := chain2 hB hb1
  have H := hid (And.intro h1 h2)
  clear h1 h2
  go_wp2
  go_ret
  exact ⟨⟨t, rfl, H.out⟩, kB⟩
/-- Text: the number's text. -/
theorem stext_any (w : World) (a : Value) (z : Int) (K : Nat) (hK : K ≤ 1000000000) (ha : RNumIs w a z K)  :
    Calls Tryz.prog 50 #[a] w fun e w' => (∃ s, e = .returned (.string s) ∧ ZTx s z) ∧ Below w.heap.size w w' := by
  obtain ⟨ao, l, c, rfl, na⟩ := ha
  by_cases h : z < 0
  · rw [show decide (z < 0) = true by simp [h]]
    refine (stext_below w ao l c _ K hK na).mono ?_
    rintro e w' ⟨⟨t, rfl, h1, h2⟩, hb⟩
    exact ⟨⟨_, rfl, Or.inr ⟨h, t, rfl, h1, h2⟩⟩, hb⟩
  · rw [show decide (z < 0) = false by simp; omega]
    refine (stext_above w ao l c _ K hK na).mono ?_
    rintro e w' ⟨⟨t, rfl, h1, h2⟩, hb⟩
    exact ⟨⟨_, rfl, Or.inl ⟨by omega, h1, h2⟩⟩, hb⟩
end Go.Proofs.YtgojlegknlalpaaGreatDoor
