/- The laws' helper 'long'. -/
import Derived.Test.YtfpifjejooineaaRcSame
namespace Go.Proofs.Ytfpifjejooineaa.Rc
open Go.RowKit
set_option linter.unusedVariables false
set_option maxRecDepth 100000
set_option linter.unusedSimpArgs false

set_option maxHeartbeats 4000000 in
/-- What it counts: no less than there are, and no number beyond bounds. -/
theorem long_any (w : World) (v : Value) (L : List Rec) (h : IsRecs w v L) :
    Calls Try.prog 6 #[v] w fun e w' => (∃ n : Nat, e = .returned (.int .i64 (n : Int)) ∧ n ≤ 8000000 ∧ (n < 1048576 → L.length ≤ n)) ∧ Below w.heap.size w w' := by
  obtain ⟨a, c, rfl, hlen⟩ := h.slice
  obtain ⟨M, hM, hM2⟩ : ∃ M : Nat, M = min L.length 1048576 ∧ (if (1048576 : Int) < (L.length : Int) then (1048576 : Int) else (L.length : Int)) = (M : Int) := ⟨_, rfl, by split <;> omega⟩
  have hM3 : M ≤ 1048576 := by omega
  have HM := hid hM
  clear hM
  go_enter Try.func6, Try.ntmps6
  go_wp2
  go_loopw [3, 4] (fun m i wr => ∃ k x : Nat, k ≤ L.length ∧ i = .int .i64 (k : Int) ∧ m = .int .i64 (x : Int) ∧ M ≤ x ∧ x ≤ 8000000 ∧ Below w.heap.size w wr) (fun _ i _ => L.length - (intOf i).toNat)
  case atStart => exact ⟨0, M, Nat.zero_le _, rfl, rfl, Nat.le_refl _, by omega, Below.refl _ _⟩
  case round =>
    obtain ⟨k, x, hk, rfl, rfl, hx1, hx2, hbel⟩ := hrel
    by_cases hlt : k < L.length
    · by_cases hm : x ≤ 131072
      · obtain ⟨b1, o1, d1, u1, e1, l1, m1, f1, r1⟩ := (h.below hbel).at k hlt
        simp only [Value.slice.injEq] at e1
        obtain ⟨rfl, _, rfl⟩ := e1
        unfold maxLen at m1
        obtain ⟨q1, x1, eq1, hN⟩ := r1.ints.slice
        subst eq1
        obtain ⟨k1, w1, n1, t1, _⟩ := r1
        obtain ⟨fk, fw, ft⟩ := f1
        unfold maxLen at fw ft
        generalize L[k] = r at *
        obtain ⟨A, hA, hA2⟩ : ∃ A : Nat, A = min r.who.size 1048576 ∧ (if (1048576 : Int) < (r.who.size : Int) then (1048576 : Int) else (r.who.size : Int)) = (A : Int) := ⟨_, rfl, by split <;> omega⟩
        obtain ⟨B, hB, hB2⟩ : ∃ A : Nat, A = min r.text.size 1048576 ∧ (if (1048576 : Int) < (r.text.size : Int) then (1048576 : Int) else (r.text.size : Int)) = (A : Int) := ⟨_, rfl, by split <;> omega⟩
        obtain ⟨C, hC, hC2⟩ : ∃ A : Nat, A = min r.nums.length 1048576 ∧ (if (1048576 : Int) < (r.nums.length : Int) then (1048576 : Int) else (r.nums.length : Int)) = (A : Int) := ⟨_, rfl, by split <;> omega⟩
        have lA : A ≤ 1048576 := by omega
        have lB : B ≤ 1048576 := by omega
        have lC : C ≤ 1048576 := by omega
        clear hA hB hC
        go_wp2_with fail
        go_quiet (fail)
        have hb2 := below_dn hbel nq
        generalize wr.drewN nq = W at *
        clear k1 w1 n1 t1
        go_wp2
        go_roundw
        case rel => exact ⟨k + 1, x + (A + B + C), by omega, by go_num, by go_num, by omega, by omega, hb2⟩
        case measure => simp [intOf]; omega
      · have hm' : ¬ (x : Int) ≤ 131072 := by omega
        go_wp2
        go_ret
        exact ⟨⟨x, rfl, hx2, fun hx => by have := HM.out; omega⟩, hbel⟩
    · go_wp2
      go_ret
      exact ⟨⟨x, rfl, hx2, fun hx => by have := HM.out; omega⟩, hbel⟩
end Go.Proofs.Ytfpifjejooineaa.Rc
