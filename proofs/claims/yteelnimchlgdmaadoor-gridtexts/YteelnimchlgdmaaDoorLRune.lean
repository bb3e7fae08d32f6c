/- lex: runes and names, the program's and the document's. -/
import Derived.Test.YteelnimchlgdmaaDoorRows
import Derived.Test.YteelnimchlgdmaaDoorLMath
import Derived.WalkKit
import Derived.WalkSpells
import Derived.WalkLawsBesides
import Derived.Laws.RangeAny
import Derived.Below
namespace Go.Proofs.YteelnimchlgdmaaDoor
open Go.RowKit
set_option linter.unusedVariables false
set_option maxRecDepth 100000
set_option linter.unusedSimpArgs false

theorem hid {p : Prop} (h : p) : Hid p := h
theorem ret_bool {a b : Bool} (h : a = b) : Ending.returned (.bool a) = .returned (.bool b) := by rw [h]
theorem let_ways (r : Nat) : (r < 97 ∧ isLet r = false) ∨ (97 ≤ r ∧ r ≤ 122 ∧ isLet r = true) ∨ (122 < r ∧ r < 945 ∧ isLet r = false) ∨ (945 ≤ r ∧ r ≤ 969 ∧ isLet r = true) ∨ (969 < r ∧ isLet r = false) := by
  simp only [isLet, Bool.or_eq_true, Bool.or_eq_false_iff, Bool.and_eq_true, Bool.and_eq_false_iff, decide_eq_true_eq, decide_eq_false_iff_not]
  omega
theorem dig_ways (r : Nat) : (r < 48 ∧ isDig r = false) ∨ (48 ≤ r ∧ r ≤ 57 ∧ isDig r = true) ∨ (57 < r ∧ isDig r = false) := by
  simp only [isDig, Bool.and_eq_true, Bool.and_eq_false_iff, decide_eq_true_eq, decide_eq_false_iff_not]
  omega
set_option maxHeartbeats 800000 in
theorem isLetter_any (r : Nat) (w : World) :
    Calls Tryd.prog 36 #[.int .i32 (r : Int)] w fun e w' => e = .returned (.bool (isLet r)) ∧ w' = w := by
  rcases let_ways r with ⟨h1, he⟩ | ⟨h1, h2, he⟩ | ⟨h1, h2, he⟩ | ⟨h1, h2, he⟩ | ⟨h1, he⟩
  · rw [he]
    have t1 : decide ((97 : Int) ≤ (r : Int)) = false := decide_eq_false (by omega)
    have t2 : decide ((945 : Int) ≤ (r : Int)) = false := decide_eq_false (by omega)
    clear h1 he
    go_enter Tryd.func36, Tryd.ntmps36
    go_wp2
    go_ret
    exact ⟨rfl, rfl⟩
  · rw [he]
    have t1 : decide ((97 : Int) ≤ (r : Int)) = true := decide_eq_true (by omega)
    have t2 : decide ((r : Int) ≤ (122 : Int)) = true := decide_eq_true (by omega)
    clear h1 h2 he
    go_enter Tryd.func36, Tryd.ntmps36
    go_wp2
    go_ret
    exact ⟨rfl, rfl⟩
  · rw [he]
    have t1 : decide ((97 : Int) ≤ (r : Int)) = true := decide_eq_true (by omega)
    have t2 : decide ((r : Int) ≤ (122 : Int)) = false := decide_eq_false (by omega)
    have t3 : decide ((945 : Int) ≤ (r : Int)) = false := decide_eq_false (by omega)
    clear h1 h2 he
    go_enter Tryd.func36, Tryd.ntmps36
    go_wp2
    go_ret
    exact ⟨rfl, rfl⟩
  · rw [he]
    have t1 : decide ((97 : Int) ≤ (r : Int)) = true := decide_eq_true (by omega)
    have t2 : decide ((r : Int) ≤ (122 : Int)) = false := decide_eq_false (by omega)
    have t3 : decide ((945 : Int) ≤ (r : Int)) = true := decide_eq_true (by omega)
    have t4 : decide ((r : Int) ≤ (969 : Int)) = true := decide_eq_true (by omega)
    clear h1 h2 he
    go_enter Tryd.func36, Tryd.ntmps36
    go_wp2
    go_ret
    exact ⟨rfl, rfl⟩
  · rw [he]
    have t1 : decide ((97 : Int) ≤ (r : Int)) = true := decide_eq_true (by omega)
    have t2 : decide ((r : Int) ≤ (122 : Int)) = false := decide_eq_false (by omega)
    have t3 : decide ((945 : Int) ≤ (r : Int)) = true := decide_eq_true (by omega)
    have t4 : decide ((r : Int) ≤ (969 : Int)) = false := decide_eq_false (by omega)
    clear h1 he
    go_enter Tryd.func36, Tryd.ntmps36
    go_wp2
    go_ret
    exact ⟨rfl, rfl⟩
set_option maxHeartbeats 800000 in
theorem isDigit_any (r : Nat) (w : World) :
    Calls Tryd.prog 26 #[.int .i32 (r : Int)] w fun e w' => e = .returned (.bool (isDig r)) ∧ w' = w := by
  rcases dig_ways r with ⟨h1, he⟩ | ⟨h1, h2, he⟩ | ⟨h1, he⟩
  · rw [he]
    have t1 : decide ((48 : Int) ≤ (r : Int)) = false := decide_eq_false (by omega)
    clear h1 he
    go_enter Tryd.func26, Tryd.ntmps26
    go_wp2
    go_ret
    exact ⟨rfl, rfl⟩
  · rw [he]
    have t1 : decide ((48 : Int) ≤ (r : Int)) = true := decide_eq_true (by omega)
    have t2 : decide ((r : Int) ≤ (57 : Int)) = true := decide_eq_true (by omega)
    clear h1 h2 he
    go_enter Tryd.func26, Tryd.ntmps26
    go_wp2
    go_ret
    exact ⟨rfl, rfl⟩
  · rw [he]
    have t1 : decide ((48 : Int) ≤ (r : Int)) = true := decide_eq_true (by omega)
    have t2 : decide ((r : Int) ≤ (57 : Int)) = false := decide_eq_false (by omega)
    clear h1 he
    go_enter Tryd.func26, Tryd.ntmps26
    go_wp2
    go_ret
    exact ⟨rfl, rfl⟩
theorem beq_no {a b : Nat} (h : a ≠ b) : ((a : Int) == (b : Int)) = false := by simp; omega
theorem beq_yes {a b : Nat} (h : a = b) : ((a : Int) == (b : Int)) = true := by subst h; simp
set_option maxHeartbeats 1600000 in
theorem mayStand_any (r : Nat) (w : World) :
    Calls Tryd.prog 21 #[.int .i32 (r : Int)] w fun e w' => e = .returned (.bool (may r)) ∧ w' = w := by
  have hL := fun v => isLetter_any r v
  have hD := fun v => isDigit_any r v
  have key : may r = (isLet r || isDig r || r == 45 || r == 44 || r == 32) := rfl
  rcases Bool.eq_false_or_eq_true (isLet r) with e1 | e1
  · rw [e1] at hL key
    rw [show may r = true by rw [key]; simp]
    clear key hD e1
    go_enter Tryd.func21, Tryd.ntmps21
    go_wp2_with (go_at_call 36; refine (hL _).mono ?_; rintro e w' ⟨rfl, rfl⟩)
    go_ret
    exact ⟨rfl, rfl⟩
  rcases Bool.eq_false_or_eq_true (isDig r) with e2 | e2
  · rw [e1] at hL key
    rw [e2] at hD key
    rw [show may r = true by rw [key]; simp]
    clear key e1 e2
    go_enter Tryd.func21, Tryd.ntmps21
    go_wp2_with (first | (go_at_call 36; refine (hL _).mono ?_; rintro e w' ⟨rfl, rfl⟩) | (go_at_call 26; refine (hD _).mono ?_; rintro e w' ⟨rfl, rfl⟩))
    go_ret
    exact ⟨rfl, rfl⟩
  rw [e1] at hL key
  rw [e2] at hD key
  simp only [Bool.false_or] at key
  clear e1 e2
  by_cases h1 : r = 45
  · have t1 : ((r : Int) == 45) = true := beq_yes h1
    rw [show may r = true by rw [key, h1]; rfl]
    clear key h1
    go_enter Tryd.func21, Tryd.ntmps21
    go_wp2_with (first | (go_at_call 36; refine (hL _).mono ?_; rintro e w' ⟨rfl, rfl⟩) | (go_at_call 26; refine (hD _).mono ?_; rintro e w' ⟨rfl, rfl⟩))
    go_ret
    exact ⟨rfl, rfl⟩
  have t1 : ((r : Int) == 45) = false := beq_no h1
  by_cases h2 : r = 44
  · have t2 : ((r : Int) == 44) = true := beq_yes h2
    rw [show may r = true by rw [key, h2]; rfl]
    clear key h1 h2
    go_enter Tryd.func21, Tryd.ntmps21
    go_wp2_with (first | (go_at_call 36; refine (hL _).mono ?_; rintro e w' ⟨rfl, rfl⟩) | (go_at_call 26; refine (hD _).mono ?_; rintro e w' ⟨rfl, rfl⟩))
    go_ret
    exact ⟨rfl, rfl⟩
  have t2 : ((r : Int) == 44) = false := beq_no h2
  by_cases h3 : r = 32
  · have t3 : ((r : Int) == 32) = true := beq_yes h3
    rw [show may r = true by rw [key, h3]; rfl]
    clear key h1 h2 h3
    go_enter Tryd.func21, Tryd.ntmps21
    go_wp2_with (first | (go_at_call 36; refine (hL _).mono ?_; rintro e w' ⟨rfl, rfl⟩) | (go_at_call 26; refine (hD _).mono ?_; rintro e w' ⟨rfl, rfl⟩))
    go_ret
    exact ⟨rfl, rfl⟩
  · have t3 : ((r : Int) == 32) = false := beq_no h3
    rw [show may r = false by rw [key]; simp [h1, h2, h3]]
    clear key h1 h2 h3
    go_enter Tryd.func21, Tryd.ntmps21
    go_wp2_with (first | (go_at_call 36; refine (hL _).mono ?_; rintro e w' ⟨rfl, rfl⟩) | (go_at_call 26; refine (hD _).mono ?_; rintro e w' ⟨rfl, rfl⟩))
    go_ret
    exact ⟨rfl, rfl⟩
/-- The document's kind of a rune. -/
def kindOf (r : Nat) : Int := if isLet r = true then 1 else if isDig r = true then 2 else if r = 45 then 3 else if r = 44 then 4 else if r = 32 then 5 else 0
theorem kind_may (r : Nat) : (kindOf r == 0) = !may r := by
  unfold kindOf may
  by_cases h1 : isLet r = true
  · simp [h1]
  · by_cases h2 : isDig r = true
    · simp [h1, h2]
    · by_cases h3 : r = 45
      · subst h3; decide
      · by_cases h4 : r = 44
        · subst h4; decide
        · by_cases h5 : r = 32
          · subst h5; decide
          · simp [h1, h2, h3, h4, h5]
theorem kind_let (r : Nat) : (kindOf r == 1) = isLet r := by
  unfold kindOf
  by_cases h1 : isLet r = true
  · simp [h1]
  · rw [if_neg h1]
    simp only [Bool.not_eq_true] at h1
    rw [h1]
    repeat' split
    all_goals rfl
theorem kind_few (r : Nat) : 0 ≤ kindOf r ∧ kindOf r ≤ 5 := by
  unfold kindOf
  repeat' split
  all_goals omega
set_option maxHeartbeats 3200000 in
theorem kind_any (r : Nat) (w : World) :
    Calls Tryd.prog 29 #[.int .i32 (r : Int)] w fun e w' => e = .returned (.int .i64 (kindOf r)) ∧ w' = w := by
  obtain ⟨k, hk⟩ : ∃ k, k = kindOf r := ⟨_, rfl⟩
  rw [← hk]
  unfold kindOf at hk
  rcases let_ways r with ⟨h1, he⟩ | ⟨h1, h2, he⟩ | ⟨h1, h2, he⟩ | ⟨h1, h2, he⟩ | ⟨h1, he⟩
  · have t1 : decide ((97 : Int) ≤ (r : Int)) = false := decide_eq_false (by omega)
    have t2 : decide ((945 : Int) ≤ (r : Int)) = false := decide_eq_false (by omega)
    rcases dig_ways r with ⟨d1, de⟩ | ⟨d1, d2, de⟩ | ⟨d1, de⟩
    · have u1 : decide ((48 : Int) ≤ (r : Int)) = false := decide_eq_false (by omega)
      rw [he, de] at hk
      simp only [Bool.false_eq_true, if_false] at hk
      by_cases h3 : r = 45
      · have t3 : ((r : Int) == 45) = true := beq_yes h3
        rw [if_pos h3] at hk
        subst hk
        clear h1 he d1 de h3
        go_enter Tryd.func29, Tryd.ntmps29
        go_wp2
        go_ret
        exact ⟨rfl, rfl⟩
      have t3 : ((r : Int) == 45) = false := beq_no h3
      rw [if_neg h3] at hk
      by_cases h4 : r = 44
      · have t4 : ((r : Int) == 44) = true := beq_yes h4
        rw [if_pos h4] at hk
        subst hk
        clear h1 he d1 de h3 h4
        go_enter Tryd.func29, Tryd.ntmps29
        go_wp2
        go_ret
        exact ⟨rfl, rfl⟩
      have t4 : ((r : Int) == 44) = false := beq_no h4
      rw [if_neg h4] at hk
      by_cases h5 : r = 32
      · have t5 : ((r : Int) == 32) = true := beq_yes h5
        rw [if_pos h5] at hk
        subst hk
        clear h1 he d1 de h3 h4 h5
        go_enter Tryd.func29, Tryd.ntmps29
        go_wp2
        go_ret
        exact ⟨rfl, rfl⟩
      · have t5 : ((r : Int) == 32) = false := beq_no h5
        rw [if_neg h5] at hk
        subst hk
        clear h1 he d1 de h3 h4 h5
        go_enter Tryd.func29, Tryd.ntmps29
        go_wp2
        go_ret
        exact ⟨rfl, rfl⟩
    · have u1 : decide ((48 : Int) ≤ (r : Int)) = true := decide_eq_true (by omega)
      have u2 : decide ((r : Int) ≤ (57 : Int)) = true := decide_eq_true (by omega)
      rw [he, de] at hk
      simp only [Bool.false_eq_true, if_false, if_true] at hk
      subst hk
      clear h1 he d1 d2 de
      go_enter Tryd.func29, Tryd.ntmps29
      go_wp2
      go_ret
      exact ⟨rfl, rfl⟩
    · have u1 : decide ((48 : Int) ≤ (r : Int)) = true := decide_eq_true (by omega)
      have u2 : decide ((r : Int) ≤ (57 : Int)) = false := decide_eq_false (by omega)
      have t3 : ((r : Int) == 45) = false := beq_no (b := 45) (by omega)
      have t4 : ((r : Int) == 44) = false := beq_no (b := 44) (by omega)
      have t5 : ((r : Int) == 32) = false := beq_no (b := 32) (by omega)
      rw [he, de, if_neg (show ¬ r = 45 by omega), if_neg (show ¬ r = 44 by omega), if_neg (show ¬ r = 32 by omega)] at hk
      simp only [Bool.false_eq_true, if_false] at hk
      subst hk
      clear h1 he d1 de
      go_enter Tryd.func29, Tryd.ntmps29
      go_wp2
      go_ret
      exact ⟨rfl, rfl⟩
  · have t1 : decide ((97 : Int) ≤ (r : Int)) = true := decide_eq_true (by omega)
    have t2 : decide ((r : Int) ≤ (122 : Int)) = true := decide_eq_true (by omega)
    rw [he, if_pos rfl] at hk
    subst hk
    clear h1 h2 he
    go_enter Tryd.func29, Tryd.ntmps29
    go_wp2
    go_ret
    exact ⟨rfl, rfl⟩
  · have t1 : decide ((97 : Int) ≤ (r : Int)) = true := decide_eq_true (by omega)
    have t2 : decide ((r : Int) ≤ (122 : Int)) = false := decide_eq_false (by omega)
    have t6 : decide ((945 : Int) ≤ (r : Int)) = false := decide_eq_false (by omega)
    have u1 : decide ((48 : Int) ≤ (r : Int)) = true := decide_eq_true (by omega)
    have u2 : decide ((r : Int) ≤ (57 : Int)) = false := decide_eq_false (by omega)
    have t3 : ((r : Int) == 45) = false := beq_no (b := 45) (by omega)
    have t4 : ((r : Int) == 44) = false := beq_no (b := 44) (by omega)
    have t5 : ((r : Int) == 32) = false := beq_no (b := 32) (by omega)
    rw [he, show isDig r = false by (have := dig_ways r; rcases this with h | h | h <;> first | exact h.2 | omega), if_neg (show ¬ r = 45 by omega), if_neg (show ¬ r = 44 by omega), if_neg (show ¬ r = 32 by omega)] at hk
    simp only [Bool.false_eq_true, if_false] at hk
    subst hk
    clear h1 h2 he
    go_enter Tryd.func29, Tryd.ntmps29
    go_wp2
    go_ret
    exact ⟨rfl, rfl⟩
  · have t1 : decide ((97 : Int) ≤ (r : Int)) = true := decide_eq_true (by omega)
    have t2 : decide ((r : Int) ≤ (122 : Int)) = false := decide_eq_false (by omega)
    have t6 : decide ((945 : Int) ≤ (r : Int)) = true := decide_eq_true (by omega)
    have t7 : decide ((r : Int) ≤ (969 : Int)) = true := decide_eq_true (by omega)
    rw [he, if_pos rfl] at hk
    subst hk
    clear h1 h2 he
    go_enter Tryd.func29, Tryd.ntmps29
    go_wp2
    go_ret
    exact ⟨rfl, rfl⟩
  · have t1 : decide ((97 : Int) ≤ (r : Int)) = true := decide_eq_true (by omega)
    have t2 : decide ((r : Int) ≤ (122 : Int)) = false := decide_eq_false (by omega)
    have t6 : decide ((945 : Int) ≤ (r : Int)) = true := decide_eq_true (by omega)
    have t7 : decide ((r : Int) ≤ (969 : Int)) = false := decide_eq_false (by omega)
    have u1 : decide ((48 : Int) ≤ (r : Int)) = true := decide_eq_true (by omega)
    have u2 : decide ((r : Int) ≤ (57 : Int)) = false := decide_eq_false (by omega)
    have t3 : ((r : Int) == 45) = false := beq_no (b := 45) (by omega)
    have t4 : ((r : Int) == 44) = false := beq_no (b := 44) (by omega)
    have t5 : ((r : Int) == 32) = false := beq_no (b := 32) (by omega)
    rw [he, show isDig r = false by (have := dig_ways r; rcases this with h | h | h <;> first | exact h.2 | omega), if_neg (show ¬ r = 45 by omega), if_neg (show ¬ r = 44 by omega), if_neg (show ¬ r = 32 by omega)] at hk
    simp only [Bool.false_eq_true, if_false] at hk
    subst hk
    clear h1 he
    go_enter Tryd.func29, Tryd.ntmps29
    go_wp2
    go_ret
    exact ⟨rfl, rfl⟩
end Go.Proofs.YteelnimchlgdmaaDoor
