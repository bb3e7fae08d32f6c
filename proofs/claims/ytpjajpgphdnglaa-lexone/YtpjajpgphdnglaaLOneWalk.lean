/- The law LexOne. -/
import Derived.Test.YtpjajpgphdnglaaLZNum
import Derived.Below
namespace Go.Proofs.Ytpjajpgphdnglaa
open Go.RowKit
set_option linter.unusedVariables false
set_option maxRecDepth 100000
set_option linter.unusedSimpArgs false

theorem bt_app_left (s t : ByteArray) (j : Nat) (h : j < s.size) : bt (s ++ t) j = bt s j := by
  unfold bt
  rw [dif_pos (by rw [ByteArray.size_append]; omega), dif_pos (by omega)]
  congr 1
  exact ByteArray.getElem_append_left (by omega)
theorem bt_app_right (s t : ByteArray) (j : Nat) (h : j < t.size) : bt (s ++ t) (s.size + j) = bt t j := by
  unfold bt
  rw [dif_pos (by rw [ByteArray.size_append]; omega), dif_pos h]
  congr 1
  rw [ByteArray.getElem_append_right (by omega)]
  congr 1; omega
theorem bt_rest (s : ByteArray) (j : Nat) (h : j + 1 < s.size) : bt (s.extract 1 s.size) j = bt s (j + 1) := by
  unfold bt
  rw [dif_pos (by rw [ByteArray.size_extract]; omega), dif_pos h]
  congr 1
  rw [ByteArray.getElem_extract]
  congr 1; omega
theorem bad_first {s : ByteArray} (h : 0 < s.size) (hb : bt s 0 < 48 ∨ 57 < bt s 0) (hn : bt s 0 ≠ 45) : ¬ NumT s := by
  have hneg : ¬ isNeg s = true := by
    simp only [isNeg, Bool.and_eq_true, bne_iff_ne, ne_eq, beq_iff_eq]
    exact fun e => hn e.2
  have hbd : body s = s := by unfold body; rw [if_neg hneg]
  exact no_digit (k := 0) (by rw [hbd]; exact h) (by rw [hbd]; exact hb)
theorem bad_second {s : ByteArray} (h : 1 < s.size) (h0 : bt s 0 = 45) (hb : bt s 1 < 48 ∨ 57 < bt s 1) : ¬ NumT s := by
  have hneg : isNeg s = true := by
    simp only [isNeg, Bool.and_eq_true, bne_iff_ne, ne_eq, beq_iff_eq]
    exact ⟨by omega, h0⟩
  have hbd : body s = s.extract 1 s.size := by unfold body; rw [if_pos hneg]
  exact no_digit (k := 0) (by rw [hbd, ByteArray.size_extract]; omega) (by rw [hbd, bt_rest s 0 h]; exact hb)
theorem bad_last {s : ByteArray} (h : 1 < s.size) (hb : bt s (s.size - 1) < 48 ∨ 57 < bt s (s.size - 1)) : ¬ NumT s := by
  by_cases hneg : isNeg s = true
  · have hbd : body s = s.extract 1 s.size := by unfold body; rw [if_pos hneg]
    exact no_digit (k := s.size - 2) (by rw [hbd, ByteArray.size_extract]; omega) (by rw [hbd, bt_rest s _ (by omega), show s.size - 2 + 1 = s.size - 1 by omega]; exact hb)
  · have hbd : body s = s := by unfold body; rw [if_neg hneg]
    exact no_digit (k := s.size - 1) (by rw [hbd]; omega) (by rw [hbd]; exact hb)
theorem bad_nought {s : ByteArray} (h : 1 < s.size) (h0 : bt s 0 = 48) : ¬ NumT s := by
  have hneg : ¬ isNeg s = true := by
    simp only [isNeg, Bool.and_eq_true, bne_iff_ne, ne_eq, beq_iff_eq]
    rw [h0]; exact fun e => by simp at e
  have hbd : body s = s := by unfold body; rw [if_neg hneg]
  exact no_head (fun hh => by have := (hh.2 (by rw [hbd]; exact h0)).1; rw [hbd] at this; omega)
theorem some_bytes {s : ByteArray} (h : NumT s) : 0 < s.size := by
  have := h.1.1; have := body_size s; omega
theorem chain2 {w a b : World} (h : Below w.heap.size w a) (k : Below a.heap.size a b) : Below w.heap.size w b := h.trans (k.mono h.size)
set_option maxHeartbeats 3200000 in
theorem lexOne_any (s : ByteArray) (w : World) (hs : s.size ≤ maxLen) :
    Calls Try.prog 4 #[.string s] w fun e w' => e = .returned (.bool true) ∧ Below w.heap.size w w' := by
  unfold maxLen at hs
  by_cases h : 1024 < s.size
  · go_enter Try.func4, Try.ntmps4
    go_wp2
    go_ret
    exact ⟨rfl, Below.refl _ _⟩
  have hP := fun v => number_any s v (by omega)
  have hZ := fun v => znumber_any s v (by omega)
  by_cases hn : NumT s
  · have hp := some_bytes hn
    obtain ⟨a, ha⟩ : ∃ a : ByteArray, ⟨#[48]⟩ ++ s = a := ⟨_, rfl⟩
    obtain ⟨b, hb⟩ : ∃ a : ByteArray, ⟨#[43]⟩ ++ s = a := ⟨_, rfl⟩
    obtain ⟨c, hc⟩ : ∃ a : ByteArray, ⟨#[32]⟩ ++ s = a := ⟨_, rfl⟩
    obtain ⟨d, hd⟩ : ∃ a : ByteArray, ⟨#[45, 45]⟩ ++ s = a := ⟨_, rfl⟩
    obtain ⟨g, hg⟩ : ∃ a : ByteArray, s ++ ⟨#[46]⟩ = a := ⟨_, rfl⟩
    have za : a.size = 1 + s.size := by rw [← ha, ByteArray.size_append]; rfl
    have zb : b.size = 1 + s.size := by rw [← hb, ByteArray.size_append]; rfl
    have zc : c.size = 1 + s.size := by rw [← hc, ByteArray.size_append]; rfl
    have zd : d.size = 2 + s.size := by rw [← hd, ByteArray.size_append]; rfl
    have zg : g.size = s.size + 1 := by rw [← hg, ByteArray.size_append]; rfl
    have na : ¬ NumT a := bad_nought (by omega) (by rw [← ha, bt_app_left _ _ 0 (by decide)]; rfl)
    have nb : ¬ NumT b := bad_first (by omega) (by rw [← hb, bt_app_left _ _ 0 (by decide)]; decide) (by rw [← hb, bt_app_left _ _ 0 (by decide)]; decide)
    have nc : ¬ NumT c := bad_first (by omega) (by rw [← hc, bt_app_left _ _ 0 (by decide)]; decide) (by rw [← hc, bt_app_left _ _ 0 (by decide)]; decide)
    have nd : ¬ NumT d := bad_second (by omega) (by rw [← hd, bt_app_left _ _ 0 (by decide)]; rfl) (by rw [← hd, bt_app_left _ _ 1 (by decide)]; decide)
    have ng : ¬ NumT g := bad_last (by omega) (by rw [show g.size - 1 = s.size + 0 by omega, ← hg, bt_app_right _ _ 0 (by decide)]; decide)
    have hA := fun v => number_any a v (by omega)
    have hB := fun v => number_any b v (by omega)
    have hC := fun v => number_any c v (by omega)
    have hD := fun v => number_any d v (by omega)
    have hG := fun v => number_any g v (by omega)
    rw [(num_no na).1, (num_no na).2] at hA
    rw [(num_no nb).1, (num_no nb).2] at hB
    rw [(num_no nc).1, (num_no nc).2] at hC
    rw [(num_no nd).1, (num_no nd).2] at hD
    rw [(num_no ng).1, (num_no ng).2] at hG
    rw [(num_yes hn).1] at hP hZ
    clear na nb nc nd ng za zb zc zd zg hp hn
    generalize numR s = r at *
    go_enter Try.func4, Try.ntmps4
    go_wp2_with fail
    refine (hP _).mono ?_
    rintro e w1 ⟨rfl, b1⟩
    clear hP
    go_wp2_with fail
    refine (hZ _).mono ?_
    rintro e w2 ⟨rfl, b2⟩
    clear hZ
    have b2 := chain2 b1 b2
    go_wp2_with fail
    refine (hA _).mono ?_
    rintro e w3 ⟨rfl, b3⟩
    have b3 := chain2 b2 b3
    clear hA ha
    go_wp2_with fail
    refine (hB _).mono ?_
    rintro e w4 ⟨rfl, b4⟩
    have b4 := chain2 b3 b4
    clear hB hb
    go_wp2_with fail
    refine (hC _).mono ?_
    rintro e w5 ⟨rfl, b5⟩
    have b5 := chain2 b4 b5
    clear hC hc
    go_wp2_with fail
    refine (hD _).mono ?_
    rintro e w6 ⟨rfl, b6⟩
    have b6 := chain2 b5 b6
    clear hD hd
    go_wp2_with fail
    refine (hG _).mono ?_
    rintro e w7 ⟨rfl, b7⟩
    have b7 := chain2 b6 b7
    clear hG hg
    go_wp2
    go_ret
    exact ⟨rfl, b7⟩
  · rw [(num_no hn).1, (num_no hn).2] at hP hZ
    clear hn
    go_enter Try.func4, Try.ntmps4
    go_wp2_with fail
    refine (hP _).mono ?_
    rintro e w1 ⟨rfl, b1⟩
    clear hP
    go_wp2_with fail
    refine (hZ _).mono ?_
    rintro e w2 ⟨rfl, b2⟩
    clear hZ
    have b2 := chain2 b1 b2
    go_wp2
    go_ret
    exact ⟨rfl, b2⟩
end Go.Proofs.Ytpjajpgphdnglaa
