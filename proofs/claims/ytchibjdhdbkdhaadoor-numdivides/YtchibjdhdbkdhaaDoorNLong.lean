/- The laws of whole numbers' own helper 'long'. -/
import Derived.Test.YtchibjdhdbkdhaaDoorBoxes
namespace Go.Proofs.YtchibjdhdbkdhaaDoor
open Go.RowKit
set_option linter.unusedVariables false
set_option maxRecDepth 100000
set_option linter.unusedSimpArgs false

set_option maxHeartbeats 800000 in
theorem long2_any (w : World) (g n : Nat) (xs : List ByteArray) (hn : n ≤ 100) (hc : ∀ k, k < n → w.cell? ⟨g, k, none⟩ = some (.string (sg xs k))) :
    Calls Tryd.prog 19 #[.slice (some ⟨g, 0, none⟩) n n] w fun e w' => (e = .returned (.bool true) ∨ (e = .returned (.bool false) ∧ ∀ k, k < n → (sg xs k).size ≤ 512)) ∧ w' = w := by
  go_enter Tryd.func19, Tryd.ntmps19
  go_wp2
  go_loop [3, 4] (fun m i => ∃ k : Nat, k ≤ n ∧ i = .int .i64 k ∧ m = .int .i64 (lsum xs n k) ∧ lsum xs n k ≤ 2000000) (fun _ i => n - (intOf i).toNat)
  case atStart => exact ⟨0, Nat.zero_le _, rfl, rfl, by simp only [lsum]; omega⟩
  case round =>
    obtain ⟨k, hk, rfl, rfl, hb⟩ := hrel
    by_cases hlt : k < n
    · by_cases hm : lsum xs n k ≤ 512
      · have hcx := hc k hlt
        have hS : lsum xs n (k + 1) = lsum xs n k + min (sg xs k).size 1048576 := rfl
        obtain ⟨s, hs⟩ : ∃ s, s = sg xs k := ⟨_, rfl⟩
        rw [← hs] at hcx hS
        generalize lsum xs n k = x at *
        have HS := hid hS
        clear hS hs hc
        rcases (show s.size < 1048576 ∨ 1048576 < s.size ∨ s.size ≤ 1048576 ∧ 1048576 ≤ s.size by omega) with hc1 | hc1 | ⟨hc1, hc2⟩
        all_goals
          go_wp2
          go_round
          case rel => exact ⟨k + 1, by omega, by go_num, by rw [HS.out]; go_num, by rw [HS.out]; omega⟩
          case measure => simp [intOf]; omega
      · have hm' : ¬ (lsum xs n k : Int) ≤ 512 := by omega
        go_wp2
        go_ret
        exact ⟨Or.inl (by simp <;> omega), rfl⟩
    · by_cases hm : lsum xs n k ≤ 512
      · have HM := hid (show ∀ j, j < n → (sg xs j).size ≤ 512 from fun j hj => by have := lsum_ge xs n k j (by omega); omega)
        go_wp2
        go_ret
        exact ⟨Or.inr ⟨by simp <;> omega, HM.out⟩, rfl⟩
      · go_wp2
        go_ret
        exact ⟨Or.inl (by simp <;> omega), rfl⟩
end Go.Proofs.YtchibjdhdbkdhaaDoor
