/- The laws of grid: heavy. -/
import Derived.Test.YteelnimchlgdmaaDoorIBase
namespace Go.Proofs.YteelnimchlgdmaaDoor
open Go.RowKit
set_option linter.unusedVariables false
set_option maxRecDepth 100000
set_option linter.unusedSimpArgs false

/-- What heavy says where it says no. -/
def Hvy14 (g : Gr) (F : List ByteArray) : Prop := F.length ≤ 256 ∧ (∀ s ∈ F, s.size ≤ 256) ∧ g.lines.length ≤ 256
set_option maxHeartbeats 3200000 in
theorem heavy14_any (w : World) (g : Gr) (la : Option Addr) (lc : Nat) (h : Lns w (.slice la g.lines.length lc) g.lines) (fv : Value) (F : List ByteArray) (hf : Strs w fv F) :
    Calls Tryd.prog 4 #[.agg #[.int .i64 g.zones, .int .i64 g.hours, .slice la g.lines.length lc, .int .i64 g.low, .int .i64 g.high], fv] w fun e w' => ∃ R : Bool, e = .returned (.bool R) ∧ (R = false → Hvy14 g F) ∧ Below w.heap.size w w' := by
  have b0 := ibel w (Obj.cells #[.int .i64 g.zones, .int .i64 g.hours, .slice la g.lines.length lc, .int .i64 g.low, .int .i64 g.high] 24)
  have x0 := inew w (Obj.cells #[.int .i64 g.zones, .int .i64 g.hours, .slice la g.lines.length lc, .int .i64 g.low, .int .i64 g.high] 24)
  have z2 := ibx x0 2 (.slice la g.lines.length lc) rfl
  obtain ⟨a', c', e', hl, hm⟩ := h.slice
  simp only [Value.slice.injEq] at e'
  obtain ⟨rfl, -, rfl⟩ := e'
  have HF := hid (hf.below b0)
  obtain ⟨fa, fc, rfl, fl, fm⟩ := hf.slice
  unfold maxLen at hm fm
  have HQ := hid (show ∀ (m : Nat), (F.length ≤ 256 ∧ (∀ s ∈ F, s.size ≤ 256)) → g.lines.length ≤ 256 → Hvy14 g F from fun _ k1 k2 => ⟨k1.1, k1.2, k2⟩)
  clear h hf x0
  generalize g.lines.length = sl at *
  go_enter Tryd.func4, Tryd.ntmps4
  go_wp2_with fail
  generalize hW : w.alloc (Obj.cells #[.int .i64 g.zones, .int .i64 g.hours, .slice la sl lc, .int .i64 g.low, .int .i64 g.high] 24) = W at *
  clear hW
  go_loopw [5, 6] (fun n i wr => ∃ (k m : Nat), k ≤ F.length ∧ n = .int .i64 (m : Int) ∧ i = .int .i64 (k : Int) ∧ F.length ≤ m ∧ (m ≤ 1049600 ∨ (k = 0 ∧ m = F.length)) ∧ Hid (m ≤ 256 → ∀ j, j < k → ∀ hj : j < F.length, F[j].size ≤ 256) ∧ wr = W) (fun n i _ => F.length - (intOf i).toNat)
  case atStart => exact ⟨0, F.length, Nat.zero_le _, rfl, rfl, Nat.le_refl _, Or.inr ⟨rfl, rfl⟩, hid (fun _ j hj => absurd hj (Nat.not_lt_zero _)), rfl⟩
  case round =>
    obtain ⟨k, m, hk, rfl, rfl, hFm, hmm, HK, hw⟩ := hrel
    rw [hw]
    clear hw
    by_cases hlt : k < F.length
    · have hltI : decide ((k : Int) < (F.length : Int)) = true := decide_eq_true (by omega)
      by_cases h256 : m ≤ 256
      · have h2' : decide ((m : Int) ≤ 256) = true := decide_eq_true (by omega)
        obtain ⟨b, off, c', e, _, _, q0, q1⟩ := HF.out.at k hlt
        simp only [Value.slice.injEq] at e
        obtain ⟨rfl, -, rfl⟩ := e
        unfold maxLen at q1
        have hli : (0 : Int) ≤ (k : Int) ∧ (k : Int) < (F.length : Int) := by omega
        have HS1 := hid (show m + min F[k].size 1048576 ≤ 256 → ∀ j, j < k + 1 → ∀ hj : j < F.length, F[j].size ≤ 256 from fun hh j hj hjl => by
          rcases Nat.lt_or_ge j k with q | q
          · exact HK.out (by omega) j q hjl
          · obtain rfl : j = k := by omega
            omega)
        generalize F[k] = s at *
        obtain ⟨d, HD⟩ : ∃ d : Nat, Hid (min s.size 1048576 = d) := ⟨_, hid rfl⟩
        have hd1 : (if (1048576 : Int) < (s.size : Int) then (1048576 : Int) else (s.size : Int)) = (d : Int) := by rw [← HD.out]; split <;> omega
        have hd2 : (if 1048576 < s.size then (1048576 : Int) else (s.size : Int)) = (d : Int) := by rw [← HD.out]; split <;> omega
        have hd3 : min (s.size : Int) 1048576 = (d : Int) := by rw [← HD.out]; omega
        have hdl : d ≤ 1048576 := by rw [← HD.out]; omega
        rw [HD.out] at HS1
        clear HK HD
        go_wp2_with fail
        go_roundw
        case rel => exact ⟨k + 1, m + d, by omega, by go_num, by go_num, by omega, Or.inl (by omega), HS1, by first | rfl | trivial⟩
        case measure => simp [intOf]; omega
      · have h2' : decide ((m : Int) ≤ 256) = false := decide_eq_false (by omega)
        have h3' : decide ((256 : Int) < (m : Int)) = true := decide_eq_true (by omega)
        clear HK h256
        go_wp2_with fail
        go_ret
        exact ⟨true, rfl, (fun h => by cases h), b0⟩
    · have hltI : decide ((k : Int) < (F.length : Int)) = false := decide_eq_false (by omega)
      by_cases h256 : m ≤ 256
      · have h3' : decide ((256 : Int) < (m : Int)) = false := decide_eq_false (by omega)
        have HA := hid (show F.length ≤ 256 ∧ ∀ s ∈ F, s.size ≤ 256 from ⟨by omega, fun s hs => by
          obtain ⟨j, hj, rfl⟩ := List.mem_iff_getElem.1 hs
          exact HK.out h256 j (by omega) hj⟩)
        clear HK
        by_cases hs : sl ≤ 256
        · have h4' : decide ((256 : Int) < (sl : Int)) = false := decide_eq_false (by omega)
          go_wp2_with fail
          go_ret
          exact ⟨false, rfl, fun _ => HQ.out 0 HA.out hs, b0⟩
        · have h4' : decide ((256 : Int) < (sl : Int)) = true := decide_eq_true (by omega)
          go_wp2_with fail
          go_ret
          exact ⟨true, rfl, (fun h => by cases h), b0⟩
      · have h3' : decide ((256 : Int) < (m : Int)) = true := decide_eq_true (by omega)
        clear HK h256
        go_wp2_with fail
        go_ret
        exact ⟨true, rfl, (fun h => by cases h), b0⟩
end Go.Proofs.YteelnimchlgdmaaDoor
