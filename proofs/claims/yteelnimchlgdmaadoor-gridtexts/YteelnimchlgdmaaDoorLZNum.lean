/- lex: the document's Number. -/
import Derived.Test.YteelnimchlgdmaaDoorLNumber
namespace Go.Proofs.YteelnimchlgdmaaDoor
open Go.RowKit
set_option linter.unusedVariables false
set_option maxRecDepth 100000
set_option linter.unusedSimpArgs false

theorem dv_few {t : ByteArray} {k : Nat} (hk : k ≤ 10) (h : ∀ j, j < k → 48 ≤ bt t j ∧ bt t j ≤ 57) : dv t k < 10000000000 := by
  have h1 := dv_lt k h
  have h2 : 10 ^ k ≤ 10 ^ 10 := Nat.pow_le_pow_right (by omega) hk
  omega
set_option maxHeartbeats 3200000 in
theorem znumber_any (s : ByteArray) (w : World) (hs : s.size ≤ 1000000000) :
    Calls Tryd.prog 16 #[.string s] w fun e w' => e = .returned (.tuple #[.int .i64 (numR s), .int .i64 (numE s)]) ∧ Below w.heap.size w w' := by
  obtain ⟨X, hX⟩ : ∃ X, Hid (X = numR s) := ⟨_, rfl⟩
  obtain ⟨Y, hY⟩ : ∃ X, Hid (X = numE s) := ⟨_, rfl⟩
  rw [← hX.out, ← hY.out]
  by_cases hz : s.size = 0
  · have HN := hid (no_head (s := s) (fun h => h.1 (by have := body_size s; omega)))
    go_enter Tryd.func16, Tryd.ntmps16
    go_wp2
    go_ret2
    exact ⟨ret_pair ((num_no HN.out).2.symm.trans hX.out.symm) ((num_no HN.out).1.symm.trans hY.out.symm), Below.refl _ _⟩
  have hp0 : 0 < s.size := by omega
  have f0 := bt_at s 0 hp0
  by_cases hn : bt s 0 = 45
  · have hneg : isNeg s = true := by unfold isNeg; rw [hn]; simp only [Bool.and_eq_true, bne_iff_ne, ne_eq]; exact ⟨hz, rfl⟩
    obtain ⟨t, ht⟩ : ∃ t, s.extract 1 s.size = t := ⟨_, rfl⟩
    have HT := hid (show t = body s ∧ true = isNeg s from ⟨by unfold body; rw [if_pos hneg, ht], hneg.symm⟩)
    have hts : t.size ≤ s.size := by rw [← ht, ByteArray.size_extract]; omega
    rw [hn] at f0
    clear hn hneg hz
    rcases (show t.size = 0 ∨ 10 < t.size ∨ (t.size ≠ 0 ∧ t.size ≤ 10) by omega) with h0 | h0 | ⟨h0, h0'⟩
    · have HN := hid (no_head (s := s) (fun h => h.1 (by rw [← HT.out.1]; exact h0)))
      go_enter Tryd.func16, Tryd.ntmps16
      go_wp2
      go_ret2
      exact ⟨ret_pair ((num_no HN.out).2.symm.trans hX.out.symm) ((num_no HN.out).1.symm.trans hY.out.symm), Below.refl _ _⟩
    · have HN := hid (too_long (s := s) (by rw [← HT.out.1]; exact h0))
      go_enter Tryd.func16, Tryd.ntmps16
      go_wp2
      go_ret2
      exact ⟨ret_pair ((num_no HN.out).2.symm.trans hX.out.symm) ((num_no HN.out).1.symm.trans hY.out.symm), Below.refl _ _⟩
    have hp : 0 < t.size := by omega
    have e0 := bt_at t 0 hp
    by_cases h1 : bt t 0 = 48
    · rw [h1] at e0
      by_cases h2 : t.size = 1
      · have HN := hid (no_head (s := s) (fun h => by have := (h.2 (by rw [← HT.out.1]; exact h1)).2; rw [← HT.out.2] at this; cases this))
        clear h1
        go_enter Tryd.func16, Tryd.ntmps16
        go_wp2
        go_ret2
        exact ⟨ret_pair ((num_no HN.out).2.symm.trans hX.out.symm) ((num_no HN.out).1.symm.trans hY.out.symm), Below.refl _ _⟩
      · have HN := hid (no_head (s := s) (fun h => h2 (by have := (h.2 (by rw [← HT.out.1]; exact h1)).1; rw [← HT.out.1] at this; exact this)))
        have h2' : 1 < t.size := by omega
        clear h1 h2
        go_enter Tryd.func16, Tryd.ntmps16
        go_wp2
        go_ret2
        exact ⟨ret_pair ((num_no HN.out).2.symm.trans hX.out.symm) ((num_no HN.out).1.symm.trans hY.out.symm), Below.refl _ _⟩
    · have e3 : ((bt t 0 : Int) == 48) = false := by simp; omega
      have HH := hid (show Head s from ⟨by rw [← HT.out.1]; exact h0, fun h => absurd (by rw [← HT.out.1] at h; exact h) h1⟩)
      clear h1
      go_enter Tryd.func16, Tryd.ntmps16
      go_wp2
      go_loop [6, 7] (fun n i => ∃ k : Nat, k ≤ t.size ∧ i = .int .i64 (k : Int) ∧ n = .int .i64 (dv t k : Int) ∧ dv t k < 10000000000 ∧ Hid (∀ j, j < k → 48 ≤ bt t j ∧ bt t j ≤ 57)) (fun _ i => t.size - (intOf i).toNat)
      case atStart => exact ⟨0, Nat.zero_le _, rfl, rfl, by simp [dv], fun j hj => by omega⟩
      case round =>
        obtain ⟨k, hk, rfl, rfl, hv, HD⟩ := hrel
        by_cases hlt : k < t.size
        · have ek := bt_at t k hlt
          have hx3 : bt t k < 256 := bt_lt t k
          rcases (show bt t k < 48 ∨ 57 < bt t k ∨ 48 ≤ bt t k ∧ bt t k ≤ 57 by omega) with hc | hc | ⟨hc, hc'⟩
          · have HN := hid (show ¬ NumT s from no_digit (k := k) (by rw [← HT.out.1]; exact hlt) (by rw [← HT.out.1]; exact Or.inl hc))
            go_wp2
            go_ret2
            exact ⟨ret_pair ((num_no HN.out).2.symm.trans hX.out.symm) ((num_no HN.out).1.symm.trans hY.out.symm), Below.refl _ _⟩
          · have HN := hid (show ¬ NumT s from no_digit (k := k) (by rw [← HT.out.1]; exact hlt) (by rw [← HT.out.1]; exact Or.inr hc))
            have hc' : ¬ bt t k < 48 := by omega
            go_wp2
            go_ret2
            exact ⟨ret_pair ((num_no HN.out).2.symm.trans hX.out.symm) ((num_no HN.out).1.symm.trans hY.out.symm), Below.refl _ _⟩
          · have HV := hid (show dv t (k + 1) = dv t k * 10 + (bt t k - 48) from rfl)
            have hd2 : ∀ j, j < k + 1 → 48 ≤ bt t j ∧ bt t j ≤ 57 := fun j hj => by
              by_cases e : j = k
              · rw [e]; exact ⟨hc, hc'⟩
              · exact HD.out j (by omega)
            have HD2 := hid hd2
            have HF := hid (dv_few (by omega) hd2)
            clear hd2
            generalize dv t k = n at *
            go_wp2
            go_round
            case rel => exact ⟨k + 1, by omega, by go_num, by rw [HV.out]; go_num, HF.out, HD2.out⟩
            case measure => simp [intOf]; omega
        · obtain rfl : k = t.size := by omega
          by_cases hq : dv t t.size ≤ 1000000000
          · have HN := hid (show NumT s from head_num HH.out (by rw [← HT.out.1]; exact HD.out) (by rw [← HT.out.1]; exact hq))
            have HV := hid (show -(dv t t.size : Int) = numR s by rw [(num_yes HN.out).2]; unfold numV num; rw [← HT.out.1, ← HT.out.2]; rfl)
            generalize dv t t.size = n at *
            go_wp2
            go_ret2
            exact ⟨ret_pair (HV.out.trans hX.out.symm) ((num_yes HN.out).1.symm.trans hY.out.symm), Below.refl _ _⟩
          · have HN := hid (show ¬ NumT s from fun h => hq (by have := h.2.1; rw [← HT.out.1] at this; exact this))
            have hq' : (1000000000 : Int) < (dv t t.size : Int) := by omega
            clear hq
            generalize dv t t.size = n at *
            go_wp2
            go_ret2
            exact ⟨ret_pair ((num_no HN.out).2.symm.trans hX.out.symm) ((num_no HN.out).1.symm.trans hY.out.symm), Below.refl _ _⟩
  · have hneg : isNeg s = false := by unfold isNeg; rw [Bool.and_eq_false_iff]; exact Or.inr (by simpa using hn)
    have HT := hid (show s = body s ∧ false = isNeg s from ⟨by unfold body; rw [if_neg (by rw [hneg]; simp)], hneg.symm⟩)
    have f1 : ((bt s 0 : Int) == 45) = false := by simp; omega
    clear hn hneg hz
    rcases (show s.size = 0 ∨ 10 < s.size ∨ (s.size ≠ 0 ∧ s.size ≤ 10) by omega) with h0 | h0 | ⟨h0, h0'⟩
    · have HN := hid (no_head (s := s) (fun h => h.1 (by rw [← HT.out.1]; exact h0)))
      go_enter Tryd.func16, Tryd.ntmps16
      go_wp2
      go_ret2
      exact ⟨ret_pair ((num_no HN.out).2.symm.trans hX.out.symm) ((num_no HN.out).1.symm.trans hY.out.symm), Below.refl _ _⟩
    · have HN := hid (too_long (s := s) (by rw [← HT.out.1]; exact h0))
      go_enter Tryd.func16, Tryd.ntmps16
      go_wp2
      go_ret2
      exact ⟨ret_pair ((num_no HN.out).2.symm.trans hX.out.symm) ((num_no HN.out).1.symm.trans hY.out.symm), Below.refl _ _⟩
    have hp : 0 < s.size := by omega
    have e0 := bt_at s 0 hp
    by_cases h1 : bt s 0 = 48
    · rw [h1] at e0
      by_cases h2 : s.size = 1
      · have HH := hid (show Head s from ⟨by rw [← HT.out.1]; exact h0, fun _ => ⟨by rw [← HT.out.1]; exact h2, HT.out.2.symm⟩⟩)
        clear h1
        go_enter Tryd.func16, Tryd.ntmps16
        go_wp2
        go_loop [6, 7] (fun n i => ∃ k : Nat, k ≤ s.size ∧ i = .int .i64 (k : Int) ∧ n = .int .i64 (dv s k : Int) ∧ dv s k < 10000000000 ∧ Hid (∀ j, j < k → 48 ≤ bt s j ∧ bt s j ≤ 57)) (fun _ i => s.size - (intOf i).toNat)
        case atStart => exact ⟨0, Nat.zero_le _, rfl, rfl, by simp [dv], fun j hj => by omega⟩
        case round =>
          obtain ⟨k, hk, rfl, rfl, hv, HD⟩ := hrel
          by_cases hlt : k < s.size
          · have ek := bt_at s k hlt
            have hx3 : bt s k < 256 := bt_lt s k
            rcases (show bt s k < 48 ∨ 57 < bt s k ∨ 48 ≤ bt s k ∧ bt s k ≤ 57 by omega) with hc | hc | ⟨hc, hc'⟩
            · have HN := hid (show ¬ NumT s from no_digit (k := k) (by rw [← HT.out.1]; exact hlt) (by rw [← HT.out.1]; exact Or.inl hc))
              go_wp2
              go_ret2
              exact ⟨ret_pair ((num_no HN.out).2.symm.trans hX.out.symm) ((num_no HN.out).1.symm.trans hY.out.symm), Below.refl _ _⟩
            · have HN := hid (show ¬ NumT s from no_digit (k := k) (by rw [← HT.out.1]; exact hlt) (by rw [← HT.out.1]; exact Or.inr hc))
              have hc' : ¬ bt s k < 48 := by omega
              go_wp2
              go_ret2
              exact ⟨ret_pair ((num_no HN.out).2.symm.trans hX.out.symm) ((num_no HN.out).1.symm.trans hY.out.symm), Below.refl _ _⟩
            · have HV := hid (show dv s (k + 1) = dv s k * 10 + (bt s k - 48) from rfl)
              have hd2 : ∀ j, j < k + 1 → 48 ≤ bt s j ∧ bt s j ≤ 57 := fun j hj => by
                by_cases e : j = k
                · rw [e]; exact ⟨hc, hc'⟩
                · exact HD.out j (by omega)
              have HD2 := hid hd2
              have HF := hid (dv_few (by omega) hd2)
              clear hd2
              generalize dv s k = n at *
              go_wp2
              go_round
              case rel => exact ⟨k + 1, by omega, by go_num, by rw [HV.out]; go_num, HF.out, HD2.out⟩
              case measure => simp [intOf]; omega
          · obtain rfl : k = s.size := by omega
            by_cases hq : dv s s.size ≤ 1000000000
            · have HN := hid (show NumT s from head_num HH.out (by rw [← HT.out.1]; exact HD.out) (by rw [← HT.out.1]; exact hq))
              have HV := hid (show (dv s s.size : Int) = numR s by rw [(num_yes HN.out).2]; unfold numV num; rw [← HT.out.1, ← HT.out.2]; rfl)
              generalize dv s s.size = n at *
              go_wp2
              go_ret2
              exact ⟨ret_pair (HV.out.trans hX.out.symm) ((num_yes HN.out).1.symm.trans hY.out.symm), Below.refl _ _⟩
            · have HN := hid (show ¬ NumT s from fun h => hq (by have := h.2.1; rw [← HT.out.1] at this; exact this))
              have hq' : (1000000000 : Int) < (dv s s.size : Int) := by omega
              clear hq
              generalize dv s s.size = n at *
              go_wp2
              go_ret2
              exact ⟨ret_pair ((num_no HN.out).2.symm.trans hX.out.symm) ((num_no HN.out).1.symm.trans hY.out.symm), Below.refl _ _⟩
      · have HN := hid (no_head (s := s) (fun h => h2 (by have := (h.2 (by rw [← HT.out.1]; exact h1)).1; rw [← HT.out.1] at this; exact this)))
        have h2' : 1 < s.size := by omega
        clear h1 h2
        go_enter Tryd.func16, Tryd.ntmps16
        go_wp2
        go_ret2
        exact ⟨ret_pair ((num_no HN.out).2.symm.trans hX.out.symm) ((num_no HN.out).1.symm.trans hY.out.symm), Below.refl _ _⟩
    · have e3 : ((bt s 0 : Int) == 48) = false := by simp; omega
      have HH := hid (show Head s from ⟨by rw [← HT.out.1]; exact h0, fun h => absurd (by rw [← HT.out.1] at h; exact h) h1⟩)
      clear h1
      go_enter Tryd.func16, Tryd.ntmps16
      go_wp2
      go_loop [6, 7] (fun n i => ∃ k : Nat, k ≤ s.size ∧ i = .int .i64 (k : Int) ∧ n = .int .i64 (dv s k : Int) ∧ dv s k < 10000000000 ∧ Hid (∀ j, j < k → 48 ≤ bt s j ∧ bt s j ≤ 57)) (fun _ i => s.size - (intOf i).toNat)
      case atStart => exact ⟨0, Nat.zero_le _, rfl, rfl, by simp [dv], fun j hj => by omega⟩
      case round =>
        obtain ⟨k, hk, rfl, rfl, hv, HD⟩ := hrel
        by_cases hlt : k < s.size
        · have ek := bt_at s k hlt
          have hx3 : bt s k < 256 := bt_lt s k
          rcases (show bt s k < 48 ∨ 57 < bt s k ∨ 48 ≤ bt s k ∧ bt s k ≤ 57 by omega) with hc | hc | ⟨hc, hc'⟩
          · have HN := hid (show ¬ NumT s from no_digit (k := k) (by rw [← HT.out.1]; exact hlt) (by rw [← HT.out.1]; exact Or.inl hc))
            go_wp2
            go_ret2
            exact ⟨ret_pair ((num_no HN.out).2.symm.trans hX.out.symm) ((num_no HN.out).1.symm.trans hY.out.symm), Below.refl _ _⟩
          · have HN := hid (show ¬ NumT s from no_digit (k := k) (by rw [← HT.out.1]; exact hlt) (by rw [← HT.out.1]; exact Or.inr hc))
            have hc' : ¬ bt s k < 48 := by omega
            go_wp2
            go_ret2
            exact ⟨ret_pair ((num_no HN.out).2.symm.trans hX.out.symm) ((num_no HN.out).1.symm.trans hY.out.symm), Below.refl _ _⟩
          · have HV := hid (show dv s (k + 1) = dv s k * 10 + (bt s k - 48) from rfl)
            have hd2 : ∀ j, j < k + 1 → 48 ≤ bt s j ∧ bt s j ≤ 57 := fun j hj => by
              by_cases e : j = k
              · rw [e]; exact ⟨hc, hc'⟩
              · exact HD.out j (by omega)
            have HD2 := hid hd2
            have HF := hid (dv_few (by omega) hd2)
            clear hd2
            generalize dv s k = n at *
            go_wp2
            go_round
            case rel => exact ⟨k + 1, by omega, by go_num, by rw [HV.out]; go_num, HF.out, HD2.out⟩
            case measure => simp [intOf]; omega
        · obtain rfl : k = s.size := by omega
          by_cases hq : dv s s.size ≤ 1000000000
          · have HN := hid (show NumT s from head_num HH.out (by rw [← HT.out.1]; exact HD.out) (by rw [← HT.out.1]; exact hq))
            have HV := hid (show (dv s s.size : Int) = numR s by rw [(num_yes HN.out).2]; unfold numV num; rw [← HT.out.1, ← HT.out.2]; rfl)
            generalize dv s s.size = n at *
            go_wp2
            go_ret2
            exact ⟨ret_pair (HV.out.trans hX.out.symm) ((num_yes HN.out).1.symm.trans hY.out.symm), Below.refl _ _⟩
          · have HN := hid (show ¬ NumT s from fun h => hq (by have := h.2.1; rw [← HT.out.1] at this; exact this))
            have hq' : (1000000000 : Int) < (dv s s.size : Int) := by omega
            clear hq
            generalize dv s s.size = n at *
            go_wp2
            go_ret2
            exact ⟨ret_pair ((num_no HN.out).2.symm.trans hX.out.symm) ((num_no HN.out).1.symm.trans hY.out.symm), Below.refl _ _⟩
end Go.Proofs.YteelnimchlgdmaaDoor
