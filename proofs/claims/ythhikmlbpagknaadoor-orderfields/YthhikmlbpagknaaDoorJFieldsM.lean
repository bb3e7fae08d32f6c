/- Lines with a word more, a word less, another verb. -/
import Derived.Test.YthhikmlbpagknaaDoorJPar
import Derived.Test.YthhikmlbpagknaaDoorLPartM
namespace Go.Proofs.YthhikmlbpagknaaDoor
open Go.RowKit
set_option linter.unusedVariables false
set_option maxRecDepth 100000
set_option linter.unusedSimpArgs false

theorem cutAt_mid (c : UInt8) (r : List UInt8) : ∀ l, cutAt c (l ++ c :: r) = cutAt c l ++ cutAt c r
  | [] => by rw [List.nil_append, cutAt_hit]; rfl
  | b :: l => by
    by_cases h : b = c
    · subst h
      rw [List.cons_append, cutAt_hit, cutAt_hit, cutAt_mid b r l]; rfl
    · rw [List.cons_append, cutAt_miss h, cutAt_miss h, cutAt_mid c r l]
      have hne := cutAt_ne c l
      match hh : cutAt c l, hne with
      | x :: t, _ => rfl
/-- What wordsE is made of. -/
theorem wordsE_mk {s : ByteArray} (h1 : ¬ 200 < s.size) (h2 : runs may (bl s) = true) (h3 : hole (parts 32 s) = false) (h4 : ¬ 16 < (parts 32 s).length) : wordsE s = 0 := wordsE_ok h1 h2 h3 h4
theorem parts_more {s t u : ByteArray} (h : bl u = bl s ++ 32 :: bl t) : parts 32 u = parts 32 s ++ parts 32 t := by
  unfold parts
  rw [h, cutAt_mid, List.map_append]
theorem words_more {line : ByteArray} (h : wordsE line = 0) (hs : line.size ≤ 192) (hn : (wordsL line).length ≤ 15) : wordsE (line ++ ⟨#[32, 49]⟩) = 0 ∧ wordsL (line ++ ⟨#[32, 49]⟩) = wordsL line ++ [⟨#[49]⟩] := by
  obtain ⟨h1, h2, h3, h4⟩ := wordsE_zero h
  have hp : parts 32 (line ++ ⟨#[32, 49]⟩) = parts 32 line ++ [⟨#[49]⟩] := by
    rw [parts_more (s := line) (t := ⟨#[49]⟩) (by rw [bl_app]; rfl)]
    congr 1
  rw [wordsL_ok h] at hn ⊢
  have hz : wordsE (line ++ ⟨#[32, 49]⟩) = 0 := by
    refine wordsE_mk ?_ ?_ ?_ ?_
    · rw [ByteArray.size_append]; show ¬ 200 < line.size + 2; omega
    · rw [bl_app, (runs_app _ _ _ (Nat.le_refl _) h2).1]; decide
    · rw [hp, hole_app, h3]; decide
    · rw [hp, List.length_append]; simp; omega
  exact ⟨hz, by rw [wordsL_ok hz, hp]⟩
theorem words_x {line x0 : ByteArray} {R : List ByteArray} (h : wordsE line = 0) (hs : line.size ≤ 192) (hL : wordsL line = x0 :: R) : wordsE (⟨#[120]⟩ ++ line) = 0 ∧ wordsL (⟨#[120]⟩ ++ line) = (⟨#[120]⟩ ++ x0) :: R := by
  obtain ⟨h1, h2, h3, h4⟩ := wordsE_zero h
  rw [wordsL_ok h] at hL
  have hb : bl (⟨#[120]⟩ ++ line) = 120 :: bl line := by rw [bl_app]; rfl
  have hp : parts 32 (⟨#[120]⟩ ++ line) = (⟨#[120]⟩ ++ x0) :: R := by
    unfold parts at hL ⊢
    rw [hb, cutAt_miss (by decide)]
    match hh : cutAt 32 (bl line), cutAt_ne 32 (bl line) with
    | a :: t, _ =>
      rw [hh] at hL
      simp only [List.map_cons, List.cons.injEq] at hL
      show ofL ([120] ++ a) :: t.map ofL = _
      rw [← hL.1, ← hL.2]
      rw [show (⟨#[120]⟩ ++ ofL a : ByteArray) = ofL ([120] ++ a) from bl_inj (by rw [bl_ofL, bl_app, bl_ofL]; rfl)]
  have hz : wordsE (⟨#[120]⟩ ++ line) = 0 := by
    refine wordsE_mk ?_ ?_ ?_ ?_
    · rw [ByteArray.size_append]; show ¬ 200 < 1 + line.size; omega
    · rw [hb, runs_low (by decide), h2]; decide
    · rw [hp]
      rw [hL] at h3
      unfold hole at h3 ⊢
      simp only [List.any_cons, Bool.or_eq_false_iff] at h3 ⊢
      refine ⟨?_, h3.2⟩
      rw [ByteArray.size_append]
      exact beq_eq_false_iff_ne.2 (by show ¬ 1 + x0.size = 0; omega)
    · rw [hp]
      rw [hL] at h4
      exact h4
  exact ⟨hz, by rw [wordsL_ok hz, hp]⟩
theorem words_cut {line s : ByteArray} {r : List UInt8} (h : wordsE line = 0) (hb : bl line = bl s ++ 32 :: r) (hr : (32 : UInt8) ∉ r) : wordsE s = 0 ∧ wordsL line = wordsL s ++ [ofL r] := by
  obtain ⟨h1, h2, h3, h4⟩ := wordsE_zero h
  have hp : parts 32 line = parts 32 s ++ [ofL r] := by
    rw [parts_more (s := s) (t := ofL r) (by rw [bl_ofL]; exact hb)]
    congr 1
    unfold parts
    rw [bl_ofL, cutAt_free hr]; rfl
  have hz : wordsE s = 0 := by
    refine wordsE_mk ?_ ?_ ?_ ?_
    · have := congrArg List.length hb
      rw [List.length_append, List.length_cons, bl_len, bl_len] at this
      omega
    · rw [hb] at h2
      exact (runs_cut 32 (by decide) _ _ _ (Nat.le_refl _) h2).1
    · rw [hp, hole_app, Bool.or_eq_false_iff] at h3
      exact h3.1
    · rw [hp, List.length_append] at h4
      omega
  exact ⟨hz, by rw [wordsL_ok h, wordsL_ok hz, hp]⟩
/-- The shape of a line that is taken. -/
def Shape (v : ByteArray) (n : Nat) : Prop := (v = lockB ∧ n = 1) ∨ (v = stepB ∧ n = 6) ∨ (v = blockB ∧ n = 7) ∨ (v = cancelB ∧ n = 1)
theorem par_shape (who line : ByteArray) (g : Gd) : (par who line g).1 = 0 → ∃ v xs, wordsE line = 0 ∧ wordsL line = v :: xs ∧ Shape v xs.length := by
  refine par_cases who line g (fun z => z.1 = 0 → ∃ v xs, wordsE line = 0 ∧ wordsL line = v :: xs ∧ Shape v xs.length) ?_ ?_ ?_ ?_ ?_ ?_ ?_ ?_ ?_ ?_ ?_ ?_ ?_ ?_
  · intro h k; exact absurd k h
  · intro x0 R _ _ _ _ _ _ k; cases k
  · intro R _ _ _ k; cases k
  · intro x1 _ _ h k; exact absurd k h
  · intro x1 h1 h2 h _; exact ⟨_, _, h1, h2, Or.inl ⟨rfl, rfl⟩⟩
  · intro R _ _ _ k; cases k
  · intro x1 x2 x3 x4 x5 x6 _ _ h k; exact absurd k h
  · intro x1 x2 x3 x4 x5 x6 h1 h2 h _; exact ⟨_, _, h1, h2, Or.inr (Or.inl ⟨rfl, rfl⟩)⟩
  · intro R _ _ _ k; cases k
  · intro x1 x2 x3 x4 x5 x6 x7 _ _ h k; exact absurd k h
  · intro x1 x2 x3 x4 x5 x6 x7 h1 h2 h _; exact ⟨_, _, h1, h2, Or.inr (Or.inr (Or.inl ⟨rfl, rfl⟩))⟩
  · intro R _ _ _ k; cases k
  · intro x1 _ _ h k; exact absurd k h
  · intro x1 h1 h2 h _; exact ⟨_, _, h1, h2, Or.inr (Or.inr (Or.inr ⟨rfl, rfl⟩))⟩
theorem ls : ¬ lockB = stepB := by decide
theorem lb : ¬ lockB = blockB := by decide
theorem lc : ¬ lockB = cancelB := by decide
theorem sb : ¬ stepB = blockB := by decide
theorem sc : ¬ stepB = cancelB := by decide
theorem bc : ¬ blockB = cancelB := by decide
/-- Another number of words behind a verb. -/
theorem par_other (who s : ByteArray) (g : Gd) {v : ByteArray} {n : Nat} {ys : List ByteArray} (hv : Shape v n) (h0 : wordsE s = 0) (hL : wordsL s = v :: ys) (hn : ¬ ys.length = n) : par who s g = (91, ak0) := by
  have key : ∀ (u : ByteArray) (zs : List ByteArray) (m : Nat), wordsL s = u :: zs → Shape u m → zs.length = m → False := by
    intro u zs m h1 h2 h3
    rw [hL] at h1
    simp only [List.cons.injEq] at h1
    obtain ⟨rfl, rfl⟩ := h1
    apply hn
    rcases hv with ⟨rfl, rfl⟩ | ⟨rfl, rfl⟩ | ⟨rfl, rfl⟩ | ⟨rfl, rfl⟩ <;> rcases h2 with ⟨e, rfl⟩ | ⟨e, rfl⟩ | ⟨e, rfl⟩ | ⟨e, rfl⟩ <;> first | exact h3 | exact absurd e (by decide)
  refine par_cases who s g (fun z => z = (91, ak0)) ?_ ?_ ?_ ?_ ?_ ?_ ?_ ?_ ?_ ?_ ?_ ?_ ?_ ?_
  · intro h; exact absurd h0 h
  · intro x0 R _ h a b c d
    rw [hL] at h
    simp only [List.cons.injEq] at h
    obtain ⟨rfl, rfl⟩ := h
    rcases hv with ⟨e, _⟩ | ⟨e, _⟩ | ⟨e, _⟩ | ⟨e, _⟩ <;> contradiction
  · intro R _ _ _; rfl
  · intro x1 _ h _; exact (key _ _ 1 h (Or.inl ⟨rfl, rfl⟩) rfl).elim
  · intro x1 _ h _; exact (key _ _ 1 h (Or.inl ⟨rfl, rfl⟩) rfl).elim
  · intro R _ _ _; rfl
  · intro x1 x2 x3 x4 x5 x6 _ h _; exact (key _ _ 6 h (Or.inr (Or.inl ⟨rfl, rfl⟩)) rfl).elim
  · intro x1 x2 x3 x4 x5 x6 _ h _; exact (key _ _ 6 h (Or.inr (Or.inl ⟨rfl, rfl⟩)) rfl).elim
  · intro R _ _ _; rfl
  · intro x1 x2 x3 x4 x5 x6 x7 _ h _; exact (key _ _ 7 h (Or.inr (Or.inr (Or.inl ⟨rfl, rfl⟩))) rfl).elim
  · intro x1 x2 x3 x4 x5 x6 x7 _ h _; exact (key _ _ 7 h (Or.inr (Or.inr (Or.inl ⟨rfl, rfl⟩))) rfl).elim
  · intro R _ _ _; rfl
  · intro x1 _ h _; exact (key _ _ 1 h (Or.inr (Or.inr (Or.inr ⟨rfl, rfl⟩))) rfl).elim
  · intro x1 _ h _; exact (key _ _ 1 h (Or.inr (Or.inr (Or.inr ⟨rfl, rfl⟩))) rfl).elim
theorem x_no {x0 : ByteArray} : ¬ (⟨#[120]⟩ ++ x0 : ByteArray) = lockB ∧ ¬ (⟨#[120]⟩ ++ x0 : ByteArray) = stepB ∧ ¬ (⟨#[120]⟩ ++ x0 : ByteArray) = blockB ∧ ¬ (⟨#[120]⟩ ++ x0 : ByteArray) = cancelB := by
  have h : ∀ b : ByteArray, (⟨#[120]⟩ ++ x0 : ByteArray) = b → (bl b).head? = some 120 := fun b e => by rw [← e, bl_app]; rfl
  refine ⟨fun e => ?_, fun e => ?_, fun e => ?_, fun e => ?_⟩ <;> (have := h _ e; revert this; decide)
theorem par_x (who s : ByteArray) (g : Gd) {x0 : ByteArray} {R : List ByteArray} (h0 : wordsE s = 0) (hL : wordsL s = (⟨#[120]⟩ ++ x0) :: R) : par who s g = (90, ak0) := by
  obtain ⟨n1, n2, n3, n4⟩ := x_no (x0 := x0)
  have key : ∀ (u : ByteArray) (zs : List ByteArray), wordsL s = u :: zs → u = ⟨#[120]⟩ ++ x0 := by
    intro u zs h1
    rw [hL] at h1
    simp only [List.cons.injEq] at h1
    exact h1.1.symm
  refine par_cases who s g (fun z => z = (90, ak0)) ?_ ?_ ?_ ?_ ?_ ?_ ?_ ?_ ?_ ?_ ?_ ?_ ?_ ?_
  · intro h; exact absurd h0 h
  · intros; rfl
  · intro R _ h _; exact absurd (key _ _ h).symm n1
  · intro x1 _ h _; exact absurd (key _ _ h).symm n1
  · intro x1 _ h _; exact absurd (key _ _ h).symm n1
  · intro R _ h _; exact absurd (key _ _ h).symm n2
  · intro x1 x2 x3 x4 x5 x6 _ h _; exact absurd (key _ _ h).symm n2
  · intro x1 x2 x3 x4 x5 x6 _ h _; exact absurd (key _ _ h).symm n2
  · intro R _ h _; exact absurd (key _ _ h).symm n3
  · intro x1 x2 x3 x4 x5 x6 x7 _ h _; exact absurd (key _ _ h).symm n3
  · intro x1 x2 x3 x4 x5 x6 x7 _ h _; exact absurd (key _ _ h).symm n3
  · intro R _ h _; exact absurd (key _ _ h).symm n4
  · intro x1 _ h _; exact absurd (key _ _ h).symm n4
  · intro x1 _ h _; exact absurd (key _ _ h).symm n4
/-- A line of two words or more has a blank behind its first byte. -/
theorem blank_in {line v x : ByteArray} {R : List ByteArray} (h : wordsE line = 0) (hL : wordsL line = v :: x :: R) : ∃ p, 1 ≤ p ∧ p < line.size ∧ bt line p = 32 := by
  obtain ⟨h1, h2, h3, h4⟩ := wordsE_zero h
  rw [wordsL_ok h] at hL
  rw [hL] at h3
  have hv : 1 ≤ v.size := by
    unfold hole at h3
    simp only [List.any_cons, Bool.or_eq_false_iff] at h3
    have := beq_eq_false_iff_ne.1 h3.1
    omega
  have hb : bl line = bl v ++ 32 :: jn 32 ((x :: R).map bl) := by
    have e : (parts 32 line).map bl = cutAt 32 (bl line) := by
      unfold parts
      rw [List.map_map]
      have : (bl ∘ ofL) = id := funext fun l => bl_ofL l
      rw [this, List.map_id]
    have e2 : jn 32 (cutAt 32 (bl line)) = bl line := jn_cutAt 32 (bl line)
    rw [← e2, ← e, hL, List.map_cons, jn_cons _ _ _ (by simp)]
  have hlen := congrArg List.length hb
  rw [List.length_append, List.length_cons, bl_len, bl_len] at hlen
  refine ⟨v.size, hv, by omega, ?_⟩
  rw [← bt_at line v.size (by omega), ← bl_at line v.size (by omega)]
  have : (bl line)[v.size]'(by rw [bl_len]; omega) = (bl v ++ 32 :: jn 32 ((x :: R).map bl))[v.size]'(by rw [List.length_append, bl_len]; simp) := by congr 1
  rw [this, List.getElem_append_right (by rw [bl_len]; omega)]
  simp [bl_len]
end Go.Proofs.YthhikmlbpagknaaDoor
