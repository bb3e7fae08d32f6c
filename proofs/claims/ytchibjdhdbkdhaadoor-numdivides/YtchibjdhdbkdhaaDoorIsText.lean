/- isText: is it a number's text? -/
import Derived.Test.YtchibjdhdbkdhaaDoorScale
import Derived.Test.YtchibjdhdbkdhaaDoorTexts
namespace Go.Proofs.YtchibjdhdbkdhaaDoor
open Go.RowKit
set_option linter.unusedVariables false
set_option maxRecDepth 100000
set_option linter.unusedSimpArgs false

theorem tl_len (s : ByteArray) : s.toList.length = s.size := by rw [ByteArray.toList_eq]; rfl
theorem tl_empty {s : ByteArray} (h : s.size ≠ 0) : s.toList.isEmpty = false := by
  have := tl_len s
  cases hl : s.toList with
  | nil => rw [hl] at this; simp at this; omega
  | cons a r => rfl
theorem tl_none {s : ByteArray} (h : s.size = 0) : s.toList.isEmpty = true := by
  have := tl_len s
  cases hl : s.toList with
  | nil => rfl
  | cons a r => rw [hl] at this; simp at this; omega
theorem tl_inj {s t : ByteArray} (h : s.toList = t.toList) : s = t := by
  rw [ByteArray.toList_eq, ByteArray.toList_eq] at h
  exact ByteArray.ext (Array.toList_inj.1 h)
theorem tl_long {s : ByteArray} (h : 1 < s.size) : (s.toList == [48]) = false := by
  rw [beq_eq_false_iff_ne]; intro e
  have := tl_len s
  rw [e] at this; simp at this; omega
theorem tl_nought {s : ByteArray} (h : s.size = 1) (h0 : bt s 0 = 48) : (s.toList == [48]) = true := by
  have e : s = ⟨#[48]⟩ := by
    refine ext_bt h ?_
    intro k hk
    obtain rfl : k = 0 := by omega
    rw [h0]; rfl
  rw [e, ByteArray.toList_eq]; rfl
set_option maxHeartbeats 800000 in
theorem isText_empty (s : ByteArray) (w : World) (h : s.size = 0) :
    Calls Tryd.prog 73 #[.string s] w fun e w' => e = .returned (.bool false) ∧ w' = w := by
  have e1 := tl_none h
  clear h
  go_enter Tryd.func73, Tryd.ntmps73
  go_wp2
  go_ret
  exact ⟨rfl, rfl⟩
set_option maxHeartbeats 800000 in
theorem isText_nought (s : ByteArray) (w : World) (h : 1 < s.size) (h0 : bt s 0 = 48) :
    Calls Tryd.prog 73 #[.string s] w fun e w' => e = .returned (.bool false) ∧ w' = w := by
  have hp : 0 < s.size := by omega
  have e0 : (s[0]'hp).toNat = 48 := by rw [bt_at s 0 (by omega)]; exact h0
  have e1 := tl_empty (show s.size ≠ 0 by omega)
  have e2 := tl_long h
  clear h0
  go_enter Tryd.func73, Tryd.ntmps73
  go_wp2
  go_ret
  exact ⟨rfl, rfl⟩
set_option maxHeartbeats 800000 in
theorem isText_loop (s : ByteArray) (w : World) (hs : s.size ≤ 1000000000) (h : s.size ≠ 0) (h0 : 1 < s.size → bt s 0 ≠ 48) :
    Calls Tryd.prog 73 #[.string s] w fun e w' => ((Txt s ∧ e = .returned (.bool true)) ∨ (¬ Txt s ∧ e = .returned (.bool false))) ∧ w' = w := by
  have hp : 0 < s.size := by omega
  have e1 := tl_empty h
  have e0 := bt_at s 0 hp
  have H0 := hid (And.intro h h0)
  by_cases hb : bt s 0 = 48
  · have h1 : s.size = 1 := by
      by_cases h1 : 1 < s.size
      · exact absurd hb (h0 h1)
      · omega
    have e2 := tl_nought h1 hb
    rw [hb] at e0
    clear h0 h hb h1
    go_enter Tryd.func73, Tryd.ntmps73
    go_wp2
    go_loop [17] (fun i => ∃ k : Nat, k ≤ s.size ∧ i = .int .i64 k ∧ ∀ j, j < k → 48 ≤ bt s j ∧ bt s j ≤ 57) (fun i => s.size - (intOf i).toNat)
    case atStart => exact ⟨0, Nat.zero_le _, rfl, fun j hj => by omega⟩
    case round =>
      obtain ⟨k, hk, rfl, hd⟩ := hrel
      have HD := hid hd
      clear hd
      by_cases hlt : k < s.size
      · have ek := bt_at s k hlt
        rcases (show bt s k < 48 ∨ 57 < bt s k ∨ 48 ≤ bt s k ∧ bt s k ≤ 57 by omega) with hc | hc | ⟨hc, hc'⟩
        · go_wp2
          go_ret
          exact ⟨Or.inr ⟨fun h => by have := (h.2.2 k hlt).1; omega, rfl⟩, rfl⟩
        · have hc' : ¬ bt s k < 48 := by omega
          go_wp2
          go_ret
          exact ⟨Or.inr ⟨fun h => by have := (h.2.2 k hlt).2; omega, rfl⟩, rfl⟩
        · go_wp2
          go_round
          case rel => exact ⟨k + 1, by omega, by go_num, fun j hj => by
            by_cases e : j = k
            · subst e; exact ⟨hc, hc'⟩
            · exact HD.out j (by omega)⟩
          case measure => simp [intOf]; omega
      · go_wp2
        go_ret
        exact ⟨Or.inl ⟨⟨H0.out.1, H0.out.2, fun j hj => HD.out j (by omega)⟩, rfl⟩, rfl⟩
  · have e3 : ((bt s 0 : Int) == 48) = false := by simp; omega
    clear h0 h hb
    go_enter Tryd.func73, Tryd.ntmps73
    go_wp2
    go_loop [17] (fun i => ∃ k : Nat, k ≤ s.size ∧ i = .int .i64 k ∧ ∀ j, j < k → 48 ≤ bt s j ∧ bt s j ≤ 57) (fun i => s.size - (intOf i).toNat)
    case atStart => exact ⟨0, Nat.zero_le _, rfl, fun j hj => by omega⟩
    case round =>
      obtain ⟨k, hk, rfl, hd⟩ := hrel
      have HD := hid hd
      clear hd
      by_cases hlt : k < s.size
      · have ek := bt_at s k hlt
        rcases (show bt s k < 48 ∨ 57 < bt s k ∨ 48 ≤ bt s k ∧ bt s k ≤ 57 by omega) with hc | hc | ⟨hc, hc'⟩
        · go_wp2
          go_ret
          exact ⟨Or.inr ⟨fun h => by have := (h.2.2 k hlt).1; omega, rfl⟩, rfl⟩
        · have hc' : ¬ bt s k < 48 := by omega
          go_wp2
          go_ret
          exact ⟨Or.inr ⟨fun h => by have := (h.2.2 k hlt).2; omega, rfl⟩, rfl⟩
        · go_wp2
          go_round
          case rel => exact ⟨k + 1, by omega, by go_num, fun j hj => by
            by_cases e : j = k
            · subst e; exact ⟨hc, hc'⟩
            · exact HD.out j (by omega)⟩
          case measure => simp [intOf]; omega
      · go_wp2
        go_ret
        exact ⟨Or.inl ⟨⟨H0.out.1, H0.out.2, fun j hj => HD.out j (by omega)⟩, rfl⟩, rfl⟩
theorem isText_yes (s : ByteArray) (w : World) (hs : s.size ≤ 1000000000) (h : Txt s) :
    Calls Tryd.prog 73 #[.string s] w fun e w' => e = .returned (.bool true) ∧ w' = w := by
  refine (isText_loop s w hs h.1 h.2.1).mono ?_
  rintro e w' ⟨h' | h', hw⟩
  · exact ⟨h'.2, hw⟩
  · exact absurd h h'.1
theorem isText_no (s : ByteArray) (w : World) (hs : s.size ≤ 1000000000) (h : ¬ Txt s) :
    Calls Tryd.prog 73 #[.string s] w fun e w' => e = .returned (.bool false) ∧ w' = w := by
  by_cases h0 : s.size = 0
  · exact isText_empty s w h0
  · by_cases h1 : 1 < s.size ∧ bt s 0 = 48
    · exact isText_nought s w h1.1 h1.2
    · refine (isText_loop s w hs h0 (fun a b => h1 ⟨a, b⟩)).mono ?_
      rintro e w' ⟨h' | h', hw⟩
      · exact absurd h'.1 h
      · exact ⟨h'.2, hw⟩
end Go.Proofs.YtchibjdhdbkdhaaDoor
