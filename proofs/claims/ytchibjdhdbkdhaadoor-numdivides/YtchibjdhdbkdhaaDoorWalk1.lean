/- trim, limb, Cmp: what each call answers. -/
import Derived.Test.YtchibjdhdbkdhaaDoorBase
import Derived.BigQuiet
import Derived.Deep.QuietTactic
namespace Go.Proofs.YtchibjdhdbkdhaaDoor
open Go.RowKit
set_option linter.unusedVariables false
set_option maxRecDepth 100000
set_option linter.unusedSimpArgs false

set_option maxHeartbeats 400000 in
theorem trim_some (w : World) (base g cap : Nat) (L : List Nat) (hl : L.length ≤ cap) (hcap : cap ≤ maxLen) (hown : w.ownsRow base 73 1 (.slice (some ⟨g, 0, none⟩) L.length cap) L.length (u32s L)) :
    Calls Tryd.prog 48 #[.slice (some ⟨g, 0, none⟩) L.length cap] w fun e w' => (∃ k, k ≤ L.length ∧ (∀ j, k ≤ j → lg L j = 0) ∧ (k ≠ 0 → lg L (k - 1) ≠ 0) ∧ 
      e = .returned (if k = 0 then .slice none 0 0 else .slice (some ⟨g, 0, none⟩) k cap)) ∧ w' = w := by
  have hcell := u32s_at hown
  unfold maxLen at hcap
  go_enter Tryd.func48, Tryd.ntmps48
  go_wp2
  go_loop [3] (fun n => ∃ k : Nat, k ≤ L.length ∧ n = .int .i64 k ∧ (∀ j, k ≤ j → lg L j = 0)) (fun n => (intOf n).toNat)
  case atStart => exact ⟨L.length, Nat.le_refl _, rfl, by intro j hj; exact lg_past L j hj⟩
  case round =>
    obtain ⟨k, hk, rfl, hz⟩ := hrel
    have Hz : Hid (∀ j, k ≤ j → lg L j = 0) := hz
    clear hz
    by_cases h0 : 0 < k
    · have hc := hcell (k - 1) (by omega)
      obtain ⟨m, rfl⟩ : ∃ m, k = m + 1 := ⟨k - 1, by omega⟩
      simp only [Nat.add_sub_cancel] at hc
      clear hcell
      by_cases hlm : lg L m = 0
      · rw [hlm] at hc
        go_wp2
        go_round
        case rel => exact ⟨m, by omega, by go_num, fun j hj => by
          by_cases e : j = m
          · rw [e]; exact hlm
          · exact Hz.out j (by omega)⟩
        case measure => simp [intOf]
      · have hlm' : ((lg L m : Int) == 0) = false := by simp; omega
        go_wp2
        go_ret
        exact ⟨⟨m + 1, hk, Hz.out, fun _ => hlm, by simp⟩, rfl⟩
    · go_wp2
      go_ret
      exact ⟨⟨k, hk, Hz.out, fun h => absurd h (by omega), by simp [show k = 0 by omega]⟩, rfl⟩
set_option maxHeartbeats 400000 in
theorem trim_nil (w : World) : Calls Tryd.prog 48 #[.slice none 0 0] w fun e w' => e = .returned (.slice none 0 0) ∧ w' = w := by
  go_enter Tryd.func48, Tryd.ntmps48
  go_wp2
  refine wp_loop_rounds 1 ?_
  rw [rounds_succ]
  go_wp2
  go_ret
  exact ⟨rfl, rfl⟩
/-- trim: the same number, without noughts at its end. -/
theorem trim_base (w : World) (base : Nat) (v : Value) (L : List Nat) (hb : Bd L) (h : w.ownsRow base 73 1 v L.length (u32s L)) :
    Calls Tryd.prog 48 #[v] w fun e w' => (∃ v' M, e = .returned v' ∧ w.ownsRow base 73 1 v' M.length (u32s M) ∧ Bd M ∧ Top M ∧ val M = val L ∧ M.length ≤ L.length) ∧ w' = w := by
  have h0 : Limbs w v L := ownsRow_base0 h
  rcases h0.form with ⟨rfl, rfl⟩ | ⟨g, cap, rfl, h1, h2, _⟩
  · refine (trim_nil w).mono ?_
    rintro e w' ⟨rfl, rfl⟩
    exact ⟨⟨_, [], rfl, h, hb, by intro h; simp at h, rfl, Nat.le_refl _⟩, rfl⟩
  · refine (trim_some w base g cap L h1 h2 h).mono ?_
    rintro e w' ⟨⟨k, hk, hz, hn, rfl⟩, rfl⟩
    refine ⟨⟨_, L.take k, rfl, ?_, Bd_take hb k, Top_take L k hk hn, take_val L k hk hz, by simp; omega⟩, rfl⟩
    by_cases e : k = 0
    · subst e; simpa [u32s] using World.ownsRow_nil _ _ _ _
    · rw [if_neg e]
      have hlen : (L.take k).length = k := by simp; omega
      have := ownsRow_take h hk
      rw [hlen, u32s_take]
      exact this

set_option maxHeartbeats 400000 in
theorem limb_any (w : World) (v : Value) (L : List Nat) (hb : Bd L) (h : Limbs w v L) (i : Nat) :
    Calls Tryd.prog 80 #[.agg #[v], .int .i64 i] w fun e w' => e = .returned (.int .u64 (lg L i : Int)) ∧ ∃ c, w' = w.alloc (.cells c 24) := by
  have hlt := hb i
  rcases h.form with ⟨rfl, rfl⟩ | ⟨g, cap, rfl, h1, h2, hg⟩
  · have e : lg [] i = 0 := by simp [lg]
    rw [e]
    go_enter Tryd.func80, Tryd.ntmps80
    go_wp2
    go_ret
    exact ⟨by simp, _, rfl⟩
  · by_cases hlt' : i < L.length
    · have hc2 : ∀ o, (w.alloc o).cell? ⟨g, i, none⟩ = some (.int .u32 (lg L i : Int)) := fun o => u32s_at (L := L) (h.alloc o) i hlt'
      unfold maxLen at h2
      go_enter Tryd.func80, Tryd.ntmps80
      go_wp2
      go_ret
      exact ⟨by simp, _, rfl⟩
    · have e : lg L i = 0 := lg_past L i (by omega)
      rw [e]
      unfold maxLen at h2
      go_enter Tryd.func80, Tryd.ntmps80
      go_wp2
      go_ret
      exact ⟨by simp, _, rfl⟩
end Go.Proofs.YtchibjdhdbkdhaaDoor
