/- The disk's small functions. -/
import Derived.Test.YthcefjkpiaecjaaDBase
import Derived.BigQuiet
import Derived.Deep.QuietTactic
namespace Go.Proofs.Ythcefjkpiaecjaa
open Go.RowKit
set_option linter.unusedVariables false
set_option maxRecDepth 100000
set_option linter.unusedSimpArgs false

theorem sector_any (w : World) (i : Int) :
    Calls Try.prog 34 #[.int .i64 i] w fun e w' => e = .returned (.bool (decide (0 ≤ i ∧ i < 256))) ∧ w' = w := by
  by_cases h1 : 0 ≤ i
  · by_cases h2 : i < 256
    · rw [decide_eq_true (And.intro h1 h2)]
      go_enter Try.func34, Try.ntmps34
      go_wp2
      go_ret
      exact ⟨rfl, rfl⟩
    · rw [decide_eq_false (fun h => h2 h.2)]
      go_enter Try.func34, Try.ntmps34
      go_wp2
      go_ret
      exact ⟨rfl, rfl⟩
  · rw [decide_eq_false (fun h => h1 h.1)]
    go_enter Try.func34, Try.ntmps34
    go_wp2
    go_ret
    exact ⟨rfl, rfl⟩
theorem due_any (w : World) (g : Bool) (n : Nat) :
    Calls Try.prog 52 #[.agg #[.bool g, .int .i64 (n : Int)]] w fun e w' => e = .returned (.bool (g && n == 0)) ∧ Below w.heap.size w w' := by
  cases g
  · go_enter Try.func52, Try.ntmps52
    go_wp2
    go_ret
    exact ⟨rfl, (Below.refl _ _).alloc (Nat.le_refl _) _⟩
  · by_cases h : n = 0
    · subst h
      go_enter Try.func52, Try.ntmps52
      go_wp2
      go_ret
      exact ⟨rfl, (Below.refl _ _).alloc (Nat.le_refl _) _⟩
    · have h' : (n == 0) = false := beq_eq_false_iff_ne.2 h
      have h2 : ((n : Int) == 0) = false := beq_eq_false_iff_ne.2 (by omega)
      rw [h']
      go_enter Try.func52, Try.ntmps52
      go_wp2
      go_ret
      exact ⟨rfl, (Below.refl _ _).alloc (Nat.le_refl _) _⟩
theorem less_any (w : World) (g : Bool) (n : Nat) (h0 : g = false → n = 0) (h1 : g = true → n ≠ 0) (hn : n < 9223372036854775808) :
    Calls Try.prog 53 #[.agg #[.bool g, .int .i64 (n : Int)]] w fun e w' => e = .returned (.agg #[.bool g, .int .i64 ((n - 1 : Nat) : Int)]) ∧ Below w.heap.size w w' := by
  cases g
  · obtain rfl := h0 rfl
    go_enter Try.func53, Try.ntmps53
    go_wp2
    refine bodyPost_ret (v := .agg #[.bool false, .int .i64 0]) (by simp [results, Try.results53, go_sem]) rfl ⟨rfl, ?_⟩
    exact ((Below.refl _ _).alloc (Nat.le_refl _) _).alloc (by simp) _
  · have h2 := h1 rfl
    obtain ⟨m, rfl⟩ : ∃ m, n = m + 1 := ⟨n - 1, by omega⟩
    clear h0 h1 h2
    go_enter Try.func53, Try.ntmps53
    go_wp2
    refine bodyPost_ret (v := .agg #[.bool true, .int .i64 (m : Int)]) (by simp [results, Try.results53, go_sem]) rfl ⟨rfl, ?_⟩
    exact ((Below.refl _ _).alloc (Nat.le_refl _) _).alloc (by simp) _
theorem orderOf_any (w : World) (n : Int) (hn : -9223372036854775808 ≤ n ∧ n < 9223372036854775808) :
    Calls Try.prog 32 #[.int .i64 n] w fun e w' => e = .returned (.agg #[.bool true, .int .i64 (n.toNat : Int)]) ∧ Below w.heap.size w w' := by
  rcases (show n < 0 ∨ 0 < n ∨ n = 0 by omega) with h | h | h
  all_goals
    go_enter Try.func32, Try.ntmps32
    go_wp2
    refine bodyPost_ret (v := .agg #[.bool true, .int .i64 (n.toNat : Int)]) ?_ rfl ⟨rfl, (Below.refl _ _).alloc (Nat.le_refl _) _⟩
    first | (rw [show (n.toNat : Int) = 0 by omega]; simp [results, Try.results32, go_sem]; done) | (rw [show (n.toNat : Int) = n by omega]; simp [results, Try.results32, go_sem])
theorem ints_len (L : List Nat) : (ints L).length = L.length := by simp [ints]
theorem ints_at {w : World} {base g n cap : Nat} {L : List Nat} (hown : w.ownsRow base 3 1 (.slice (some ⟨g, 0, none⟩) n cap) n (ints L)) (k : Nat) (hk : k < L.length) :
    w.cell? ⟨g, k, none⟩ = some (.int .i64 (L.getD k 0 : Int)) := by
  have hn : (ints L).length = n * 1 := hown.1
  have h := hown.cellAt k (by rw [← hn]; simpa [ints] using hk)
  rw [h]; simp [ints, hk]
theorem own_form {w : World} {base : Nat} {e : TypeId} {v : Value} {n : Nat} {xs : List Value} (h : w.ownsRow base e 1 v n xs) : (v = .slice none 0 0 ∧ n = 0) ∨ ∃ g cap, v = .slice (some ⟨g, 0, none⟩) n cap ∧ n ≤ cap ∧ cap ≤ maxLen ∧ g < w.heap.size := by
  rcases h.2 with ⟨h1, h2⟩ | ⟨g, cap, cur, hv, _, hh, r1, r2, _⟩
  · exact Or.inl ⟨h1, h2⟩
  · exact Or.inr ⟨g, cap, hv, r1, r2, (Array.getElem?_eq_some_iff.1 hh).1⟩
theorem mem_getD {L : List Nat} {i : Nat} : i ∈ L ↔ ∃ k, k < L.length ∧ L.getD k 0 = i := by
  rw [List.mem_iff_getElem]
  constructor
  · rintro ⟨k, hk, h⟩
    exact ⟨k, hk, by simp [hk, h]⟩
  · rintro ⟨k, hk, h⟩
    exact ⟨k, hk, by simpa [hk] using h⟩
theorem index_any (w : World) (base : Nat) (v : Value) (L : List Nat) (i : Nat) (h : w.ownsRow base 3 1 v L.length (ints L)) :
    Calls Try.prog 54 #[v, .int .i64 (i : Int)] w fun e w' => (∃ r : Int, e = .returned (.int .i64 r) ∧ (0 ≤ r ↔ i ∈ L)) ∧ w' = w := by
  rcases own_form h with ⟨rfl, h0⟩ | ⟨g, cap, rfl, hl, hc, _⟩
  · obtain rfl := List.eq_nil_of_length_eq_zero h0
    go_enter Try.func54, Try.ntmps54
    go_wp2
    refine wp_loop_rounds 1 ?_
    rw [rounds_succ]
    go_wp2
    go_ret
    exact ⟨⟨_, rfl, by simp⟩, rfl⟩
  · have hcell := ints_at h
    unfold maxLen at hc
    go_enter Try.func54, Try.ntmps54
    go_wp2
    go_loop [8] (fun j => ∃ k : Nat, k ≤ L.length ∧ j = .int .i64 k ∧ (∀ m, m < k → L.getD m 0 ≠ i)) (fun j => L.length - (intOf j).toNat)
    case atStart => exact ⟨0, Nat.zero_le _, rfl, by intro m hm; omega⟩
    case round =>
      obtain ⟨k, hk, rfl, hno⟩ := hrel
      have HN := hid hno
      clear hno
      by_cases hlt : k < L.length
      · have hx := hcell k hlt
        by_cases he : L.getD k 0 = i
        · have hm : i ∈ L := mem_getD.2 ⟨k, hlt, he⟩
          rw [he] at hx
          have HM := hid hm
          clear hcell hm he
          go_wp2
          go_ret
          exact ⟨⟨_, rfl, by simp [HM.out]⟩, rfl⟩
        · have hb : ((i : Int) == (L.getD k 0 : Int)) = false := beq_eq_false_iff_ne.2 (by omega)
          have HE := hid he
          clear he
          generalize hq : L.getD k 0 = x at hx hb
          clear hcell hq
          go_wp2
          go_round
          case rel => exact ⟨k + 1, by omega, by go_num, fun m hm => by
            by_cases e : m = k
            · rw [e]; exact HE.out
            · exact HN.out m (by omega)⟩
          case measure => simp [intOf]; omega
      · have hm : ¬ i ∈ L := fun h => by
          obtain ⟨m, hm, e⟩ := mem_getD.1 h
          exact HN.out m (by omega) e
        have HM := hid hm
        clear hcell hm
        go_wp2
        go_ret
        exact ⟨⟨_, rfl, by simp [HM.out]⟩, rfl⟩
theorem contains_any (w : World) (base : Nat) (v : Value) (L : List Nat) (i : Nat) (h : w.ownsRow base 3 1 v L.length (ints L)) :
    Calls Try.prog 36 #[v, .int .i64 (i : Int)] w fun e w' => e = .returned (.bool (decide (i ∈ L))) ∧ w' = w := by
  go_enter Try.func36, Try.ntmps36
  go_wp2_with (go_at_call 54; refine (index_any w base v L i h).mono ?_; rintro e w' ⟨⟨r, rfl, hr⟩, rfl⟩)
  go_ret
  have e : decide (i ∈ L) = decide (0 ≤ r) := decide_eq_decide.2 hr.symm
  rw [e]
  exact ⟨rfl, rfl⟩
end Go.Proofs.Ythcefjkpiaecjaa
