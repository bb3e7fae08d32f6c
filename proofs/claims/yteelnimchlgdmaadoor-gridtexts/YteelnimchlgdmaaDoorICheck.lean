/- grid: Check of both. -/
import Derived.Test.YteelnimchlgdmaaDoorIBase
import Derived.Deep.RegionWith
namespace Go.Proofs.YteelnimchlgdmaaDoor
open Go.RowKit
set_option linter.unusedVariables false
set_option maxRecDepth 100000
set_option linter.unusedSimpArgs false

set_option maxHeartbeats 800000 in
theorem between_any (lo n hi : Int) (R : Bool) (h : btw lo n hi = R) (w : World) :
    Calls Tryd.prog 27 #[.int .i64 lo, .int .i64 n, .int .i64 hi] w fun e w' => e = .returned (.bool R) ∧ w' = w := by
  subst h
  by_cases h1 : lo ≤ n
  · have t1 : decide (lo ≤ n) = true := decide_eq_true h1
    by_cases h2 : n ≤ hi
    · have t2 : decide (n ≤ hi) = true := decide_eq_true h2
      have e : btw lo n hi = true := by simp [btw, t1, t2]
      rw [e]
      clear e
      go_enter Tryd.func27, Tryd.ntmps27
      go_wp2
      go_ret
      exact ⟨rfl, rfl⟩
    · have t2 : decide (n ≤ hi) = false := decide_eq_false h2
      have e : btw lo n hi = false := by simp [btw, t2]
      rw [e]
      clear e
      go_enter Tryd.func27, Tryd.ntmps27
      go_wp2
      go_ret
      exact ⟨rfl, rfl⟩
  · have t1 : decide (lo ≤ n) = false := decide_eq_false h1
    have e : btw lo n hi = false := by simp [btw, t1]
    rw [e]
    clear e
    go_enter Tryd.func27, Tryd.ntmps27
    go_wp2
    go_ret
    exact ⟨rfl, rfl⟩
set_option maxHeartbeats 800000 in
theorem mwithin_any (lo n hi : Int) (R : Bool) (h : btw lo n hi = R) (w : World) :
    Calls Tryd.prog 19 #[.int .i64 n, .int .i64 lo, .int .i64 hi] w fun e w' => e = .returned (.bool R) ∧ w' = w := by
  subst h
  by_cases h1 : lo ≤ n
  · have t1 : decide (lo ≤ n) = true := decide_eq_true h1
    by_cases h2 : n ≤ hi
    · have t2 : decide (n ≤ hi) = true := decide_eq_true h2
      have e : btw lo n hi = true := by simp [btw, t1, t2]
      rw [e]
      clear e
      go_enter Tryd.func19, Tryd.ntmps19
      go_wp2
      go_ret
      exact ⟨rfl, rfl⟩
    · have t2 : decide (n ≤ hi) = false := decide_eq_false h2
      have e : btw lo n hi = false := by simp [btw, t2]
      rw [e]
      clear e
      go_enter Tryd.func19, Tryd.ntmps19
      go_wp2
      go_ret
      exact ⟨rfl, rfl⟩
  · have t1 : decide (lo ≤ n) = false := decide_eq_false h1
    have e : btw lo n hi = false := by simp [btw, t1]
    rw [e]
    clear e
    go_enter Tryd.func19, Tryd.ntmps19
    go_wp2
    go_ret
    exact ⟨rfl, rfl⟩
set_option maxHeartbeats 800000 in
theorem joins_any (l : Ln) (z : Int) (hz : 1 ≤ z ∧ z ≤ 3) (R : Bool) (h : (btw 0 l.f (z - 1) && btw 0 l.t (z - 1) && decide (l.f ≠ l.t)) = R) (w : World) :
    Calls Tryd.prog 28 #[.agg #[.int .i64 l.f, .int .i64 l.t, .int .i64 l.c], .int .i64 z] w fun e w' => e = .returned (.bool R) ∧ Below w.heap.size w w' := by
  subst h
  have b0 := ibel w (Obj.cells #[.int .i64 l.f, .int .i64 l.t, .int .i64 l.c] 41)
  have x0 := inew w (Obj.cells #[.int .i64 l.f, .int .i64 l.t, .int .i64 l.c] 41)
  have z0 := ibx x0 0 _ rfl
  have z1 := ibx x0 1 _ rfl
  have hw : wrap64 (z - 1) = z - 1 := by simp only [wrap64]; omega
  clear x0
  cases h1 : btw 0 l.f (z - 1) with
  | false =>
    go_enter Tryd.func28, Tryd.ntmps28
    go_wp2_with fail
    refine (between_any 0 l.f (z - 1) _ h1 _).mono ?_
    rintro e X ⟨rfl, rfl⟩
    go_wp2_with fail
    go_ret
    exact ⟨by simp, b0⟩
  | true =>
    cases h2 : btw 0 l.t (z - 1) with
    | false =>
      go_enter Tryd.func28, Tryd.ntmps28
      go_wp2_with fail
      refine (between_any 0 l.f (z - 1) _ h1 _).mono ?_
      rintro e X ⟨rfl, rfl⟩
      go_wp2_with fail
      refine (between_any 0 l.t (z - 1) _ h2 _).mono ?_
      rintro e X ⟨rfl, rfl⟩
      go_wp2_with fail
      go_ret
      exact ⟨by simp, b0⟩
    | true =>
      go_enter Tryd.func28, Tryd.ntmps28
      go_wp2_with fail
      refine (between_any 0 l.f (z - 1) _ h1 _).mono ?_
      rintro e X ⟨rfl, rfl⟩
      go_wp2_with fail
      refine (between_any 0 l.t (z - 1) _ h2 _).mono ?_
      rintro e X ⟨rfl, rfl⟩
      go_wp2_with fail
      go_ret
      exact ⟨by by_cases q : l.f = l.t <;> simp [q], b0⟩
end Go.Proofs.YteelnimchlgdmaaDoor
