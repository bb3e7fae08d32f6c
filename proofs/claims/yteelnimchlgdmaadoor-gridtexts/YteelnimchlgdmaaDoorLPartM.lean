/- Words with one blank between, with two, with one ahead or behind. -/
import Derived.Test.YteelnimchlgdmaaDoorLWords
import Derived.Test.YteelnimchlgdmaaDoorLJoin
import Derived.Test.YteelnimchlgdmaaDoorLCutM
namespace Go.Proofs.YteelnimchlgdmaaDoor
open Go.RowKit
set_option linter.unusedVariables false
set_option linter.unusedSimpArgs false

theorem join_bl (L : List ByteArray) : bl (joinB L) = jn 32 (L.map bl) := bl_ofL _
theorem parts_of_bl {c : UInt8} {s : ByteArray} {L : List ByteArray} (h : cutAt c (bl s) = L.map bl) : parts c s = L := by
  unfold parts
  rw [h, List.map_map, show (ofL ∘ bl) = id from funext fun x => ofL_bl x, List.map_id]
/-- As many words as were joined: they are the words. -/
theorem same_words {L : List ByteArray} (hL : L ≠ []) (h : (parts 32 (joinB L)).length = L.length) : parts 32 (joinB L) = L ∧ ∀ a ∈ L.map bl, (32 : UInt8) ∉ a := by
  unfold parts at h
  rw [List.length_map, join_bl] at h
  have hne : L.map bl ≠ [] := by simpa using hL
  have hf := jn_free 32 (L.map bl) hne (by rw [h, List.length_map])
  exact ⟨parts_of_bl (by rw [join_bl, cutAt_jn 32 _ hne hf]), hf⟩
theorem wordsE_zero {s : ByteArray} (h : wordsE s = 0) : ¬ 200 < s.size ∧ runs may (bl s) = true ∧ hole (parts 32 s) = false ∧ ¬ 16 < (parts 32 s).length := by
  by_cases h1 : 200 < s.size
  · rw [wordsE_size h1] at h; cases h
  by_cases h2 : runs may (bl s) = false
  · rw [wordsE_rune h1 h2] at h; cases h
  have h2' : runs may (bl s) = true := by simpa using h2
  by_cases h3 : hole (parts 32 s) = true
  · rw [wordsE_word h1 h2' h3] at h; cases h
  have h3' : hole (parts 32 s) = false := by simpa using h3
  by_cases h4 : 16 < (parts 32 s).length
  · rw [wordsE_many h1 h2' h3' h4] at h; cases h
  exact ⟨h1, h2', h3', h4⟩
theorem may32 : may (32 : UInt8).toNat = true := by decide
theorem runs_blank (b : List UInt8) : runs may (32 :: b) = runs may b := by
  rw [runs_low (by decide), may32, Bool.true_and]
theorem word_of {s : ByteArray} (hs : s.size ≤ 200) (hr : runs may (bl s) = true) (a b : List (List UInt8)) (h : cutAt 32 (bl s) = a ++ [] :: b) : wordsE s = 81 := by
  refine wordsE_word (by omega) hr (hole_mem (x := ofL []) ?_ rfl)
  unfold parts
  rw [h]; simp
/-- A blank ahead. -/
theorem blank_ahead {s : ByteArray} (hs : s.size + 1 ≤ 200) (hr : runs may (bl s) = true) : wordsE (⟨#[32]⟩ ++ s) = 81 := by
  have e : bl (⟨#[32]⟩ ++ s) = 32 :: bl s := by rw [bl_app]; rfl
  refine word_of (by rw [ByteArray.size_append]; show 1 + s.size ≤ 200; omega) (by rw [e, runs_blank]; exact hr) [] (cutAt 32 (bl s)) ?_
  rw [e, cutAt_hit]; rfl
theorem cutAt_snoc (c : UInt8) : ∀ l, cutAt c (l ++ [c]) = cutAt c l ++ [[]]
  | [] => by simp [cutAt]
  | b :: r => by
    by_cases h : b = c
    · subst h
      rw [List.cons_append, cutAt_hit, cutAt_hit, cutAt_snoc b r]; rfl
    · rw [List.cons_append, cutAt_miss h, cutAt_miss h, cutAt_snoc c r]
      cases hc : cutAt c r with
      | nil => exact absurd hc (cutAt_ne c r)
      | cons x t => rfl
/-- A blank behind. -/
theorem blank_behind {s : ByteArray} (hs : s.size + 1 ≤ 200) (hr : runs may (bl s) = true) : wordsE (s ++ ⟨#[32]⟩) = 81 := by
  have e : bl (s ++ ⟨#[32]⟩) = bl s ++ [32] := by rw [bl_app]; rfl
  refine word_of (by rw [ByteArray.size_append]; show s.size + 1 ≤ 200; omega) (by rw [e, (runs_app _ _ _ (Nat.le_refl _) hr).1]; decide) (cutAt 32 (bl s)) [] ?_
  rw [e, cutAt_snoc]
theorem jn_split (c : UInt8) : ∀ (A B : List (List UInt8)), A ≠ [] → B ≠ [] → jn c (A ++ B) = jn c A ++ c :: jn c B
  | [], _, h, _ => absurd rfl h
  | [a], B, _, hB => by rw [List.singleton_append, jn_cons c a B hB]; rfl
  | a :: b :: r, B, _, hB => by
    have := jn_split c (b :: r) B (by simp) hB
    rw [List.cons_append, jn_cons c a _ (by simp), this]
    simp [jn]
/-- Two blanks between. -/
theorem blank_between {L : List ByteArray} (hL : L ≠ []) (hs : (joinB L).size + 2 ≤ 200) (hr : runs may (bl (joinB L)) = true) (n : Nat) (hn : n < L.length) : wordsE (joinB (L.take n) ++ ⟨#[32]⟩ ++ ⟨#[32]⟩ ++ joinB (L.drop n)) = 81 := by
  have e : bl (joinB (L.take n) ++ ⟨#[32]⟩ ++ ⟨#[32]⟩ ++ joinB (L.drop n)) = jn 32 ((L.take n).map bl) ++ 32 :: 32 :: jn 32 ((L.drop n).map bl) := by
    rw [bl_app, bl_app, bl_app, join_bl, join_bl]
    show jn 32 _ ++ [32] ++ [32] ++ jn 32 _ = _
    simp
  have hd : (L.drop n).map bl ≠ [] := by
    intro h
    have := congrArg List.length h
    rw [List.length_map, List.length_drop, List.length_nil] at this
    omega
  have hjl : (joinB L).size = (jn 32 (L.map bl)).length := ofL_size _
  rw [join_bl] at hr
  have hsz : (joinB (L.take n) ++ ⟨#[32]⟩ ++ ⟨#[32]⟩ ++ joinB (L.drop n)).size = (jn 32 ((L.take n).map bl)).length + 2 + (jn 32 ((L.drop n).map bl)).length := by
    rw [← bl_len, e, List.length_append, List.length_cons, List.length_cons]; omega
  by_cases hz : n = 0
  · subst hz
    have e0 : jn 32 ((L.take 0).map bl) = [] := rfl
    rw [List.drop_zero] at hsz hd e ⊢
    rw [e0] at hsz e
    refine word_of (by rw [hsz]; simp only [List.length_nil]; omega) (by rw [e, List.nil_append, runs_blank, runs_blank]; exact hr) [[]] (cutAt 32 (jn 32 (L.map bl))) ?_
    rw [e, List.nil_append, cutAt_hit, cutAt_hit]; rfl
  · have ht : (L.take n).map bl ≠ [] := by
      intro h
      have := congrArg List.length h
      rw [List.length_map, List.length_take, List.length_nil] at this
      omega
    have hj : jn 32 (L.map bl) = jn 32 ((L.take n).map bl) ++ 32 :: jn 32 ((L.drop n).map bl) := by
      rw [← jn_split 32 _ _ ht hd, ← List.map_append, List.take_append_drop]
    rw [hj] at hr hjl
    obtain ⟨r1, r2⟩ := runs_cut 32 (by decide) _ _ _ (Nat.le_refl _) hr
    rw [List.length_append, List.length_cons] at hjl
    have hcut : ∃ A, cutAt 32 (jn 32 ((L.take n).map bl) ++ 32 :: 32 :: jn 32 ((L.drop n).map bl)) = A ++ [] :: cutAt 32 (jn 32 ((L.drop n).map bl)) := by
      have key : ∀ (l r : List UInt8), cutAt 32 (l ++ 32 :: r) = cutAt 32 l ++ cutAt 32 r := by
        intro l r
        induction l with
        | nil => rw [List.nil_append, cutAt_hit]; rfl
        | cons b l ih =>
          by_cases hb : b = 32
          · subst hb; rw [List.cons_append, cutAt_hit, cutAt_hit, ih]; rfl
          · rw [List.cons_append, cutAt_miss hb, cutAt_miss hb, ih]
            cases hc : cutAt 32 l with
            | nil => exact absurd hc (cutAt_ne 32 l)
            | cons x t => rfl
      exact ⟨_, by rw [key, cutAt_hit]⟩
    obtain ⟨A, hA⟩ := hcut
    refine word_of (by rw [hsz]; omega) (by rw [e, (runs_app _ _ _ (Nat.le_refl _) r1).1, runs_blank, runs_blank]; exact r2) A (cutAt 32 (jn 32 ((L.drop n).map bl))) ?_
    rw [e]; exact hA
end Go.Proofs.YteelnimchlgdmaaDoor
