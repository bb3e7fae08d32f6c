/- The laws of book: heavy. -/
import Derived.Test.YtbkobimbdiogfaaBSteps
import Derived.BigQuiet
import Derived.Deep.QuietTactic
namespace Go.Proofs.Ytbkobimbdiogfaa
open Go.RowKit
set_option linter.unusedVariables false
set_option maxRecDepth 100000
set_option linter.unusedSimpArgs false

set_option maxHeartbeats 8000000 in
theorem heavy10_any (w : World) (a : Option Addr) (len cap : Nat) (z : Nat → Kb) (h : IsKbs w a len cap z) :
    Calls Try.prog 11 #[.slice a len cap] w fun e w' => (e = .returned (.bool true) ∨ (e = .returned (.bool false) ∧ len ≤ 256 ∧ ∀ k, k < len → (z k).Q.length ≤ 4096)) ∧ Below w.heap.size w w' := by
  obtain ⟨Post, hPost⟩ : ∃ P : Prop, P = (len ≤ 256 ∧ ∀ k, k < len → (z k).Q.length ≤ 4096) := ⟨_, rfl⟩
  rw [← hPost]
  have HPOST := hid hPost
  clear hPost
  have hlen : len ≤ 9223372036854775807 := by have := h.len; omega
  go_enter Try.func11, Try.ntmps11
  go_wp2
  go_loopw [3, 4] (fun m i wr => ∃ k x : Nat, k ≤ len ∧ i = .int .i64 (k : Int) ∧ m = .int .i64 (x : Int) ∧ ((k = 0 ∧ x = len) ∨ x ≤ 20000000) ∧ Hid (x ≤ 4096 → ∀ j, j < k → (z j).Q.length ≤ 4096) ∧ Below w.heap.size w wr) (fun _ i _ => len - (intOf i).toNat)
  case atStart => exact ⟨0, len, Nat.zero_le _, rfl, rfl, Or.inl ⟨rfl, rfl⟩, fun _ j hj => by omega, Below.refl _ _⟩
  case round =>
    obtain ⟨k, x, hk, rfl, rfl, hx, HALL, hb⟩ := hrel
    have hxb : x ≤ 9223372036854775807 := by omega
    by_cases hlt : k < len
    · by_cases hm : x ≤ 4096
      · obtain ⟨b, off, rfl, hst, hfit, hl, hc, hbl⟩ := h.at k hlt
        have hst2 := hst.kx (S := fun _ => False) (Kx.of_below hb) (fun h => h)
        obtain ⟨s, hs1, hs2⟩ := hst2.who
        have hl2 : wr.cell? ⟨b, off + k * 19 + 16, none⟩ = some (z k).qv := hst2.ask 15 (z k).qv rfl
        obtain ⟨va, vc, hv, hv1, hv2⟩ := hfit.ints.slice
        have HNX := hid (fun (h2 : (z k).Q.length ≤ 4096) => show ∀ j, j < k + 1 → (z j).Q.length ≤ 4096 from fun j hj => by
          by_cases e : j = k
          · subst e; exact h2
          · exact HALL.out hm j (by omega))
        rw [hv] at hl2
        unfold maxLen at hv2
        generalize (z k).Q.length = ql at *
        obtain ⟨A, hA, hA2, hA3⟩ : ∃ A : Nat, A = min s.size 1048576 ∧ (min (s.size : Int) 1048576) = (A : Int) ∧ (if (1048576 : Int) < (s.size : Int) then (1048576 : Int) else (s.size : Int)) = (A : Int) := ⟨_, rfl, by omega, by split <;> omega⟩
        obtain ⟨B, hB, hB2, hB3⟩ : ∃ B : Nat, B = min ql 1048576 ∧ (min (ql : Int) 1048576) = (B : Int) ∧ (if (1048576 : Int) < (ql : Int) then (1048576 : Int) else (ql : Int)) = (B : Int) := ⟨_, rfl, by omega, by split <;> omega⟩
        have lA : A ≤ 1048576 := by omega
        have lB : B ≤ 1048576 := by omega
        have HA := hid hA
        have HB := hid hB
        have hw1 : IntKind.i64.wrap ((A : Int) + (B : Int)) = (A : Int) + (B : Int) := by rw [IntKind.wrap_i64]; omega
        have hw2 : IntKind.i64.wrap ((x : Int) + ((A : Int) + (B : Int))) = (x : Int) + ((A : Int) + (B : Int)) := by rw [IntKind.wrap_i64]; omega
        have hqb : ql ≤ 9223372036854775807 := by omega
        clear hA hB hst hst2 hfit HALL hv hv1 hv2
        go_wp2_with fail
        go_quiet (fail)
        have HFIN := hid (show x + (A + B) ≤ 4096 → ∀ j, j < k + 1 → (z j).Q.length ≤ 4096 from fun hy => HNX.out (by have := HB.out; omega))
        go_wp2
        go_roundw
        case rel => exact ⟨k + 1, x + (A + B), by omega, by go_num, by first | go_num | (rw [hw1, hw2]; go_num), Or.inr (by omega), HFIN, below_dn hb _⟩
        case measure => simp [intOf]; omega
      · have hm' : ¬ (x : Int) ≤ 4096 := by omega
        go_wp2
        go_ret
        exact ⟨Or.inl (by simp <;> omega), hb⟩
    · have hkl : k = len := by omega
      by_cases hm : x ≤ 4096
      · by_cases hl : len ≤ 256
        · have hl' : (len : Int) ≤ 256 := by omega
          have HL := hid (show Post by rw [HPOST.out]; exact ⟨hl, fun j hj => HALL.out hm j (by omega)⟩)
          clear hl hkl
          go_wp2
          go_ret
          exact ⟨Or.inr ⟨by simp <;> omega, HL.out⟩, hb⟩
        · have hl' : ¬ (len : Int) ≤ 256 := by omega
          clear hl hkl
          go_wp2
          go_ret
          exact ⟨Or.inl (by simp <;> omega), hb⟩
      · have hm' : ¬ (x : Int) ≤ 4096 := by omega
        clear hkl
        go_wp2
        go_ret
        exact ⟨Or.inl (by simp <;> omega), hb⟩
end Go.Proofs.Ytbkobimbdiogfaa
