/- order: Print of a Lock of few cents. -/
import Derived.Test.YthhikmlbpagknaaKOwe2
import Derived.Test.YthhikmlbpagknaaLJoin
namespace Go.Proofs.Ythhikmlbpagknaa
open Go.RowKit
set_option linter.unusedVariables false
set_option maxRecDepth 100000
set_option linter.unusedSimpArgs false

/-- The text of a digit. -/
def dgB (n : Nat) : ByteArray := ⟨#[UInt8.ofNat (48 + n)]⟩
theorem itoa_one (n : Nat) (h : n < 10) (w : World) : Calls Try.prog 44 #[.int .i64 (n : Int)] w fun e w' => e = .returned (.string (dgB n)) ∧ w' = w := by
  have := Try.strconv_Itoa_small n (by omega) w
  rwa [Lib.decDigits_one h] at this
def lockB : ByteArray := ⟨#[108, 111, 99, 107]⟩
set_option maxHeartbeats 1600000 in
theorem lockwords_few (w : World) (b n : Nat) (C : Array Value) (hn : n < 10) (h : w.heap[b]? = some (.cells C 61 (0, 0))) (hc : C[1]? = some (.int .i64 (n : Int))) :
    Calls Try.prog 69 #[.pointer (some ⟨b, 0, none⟩)] w fun e w' => (∃ v, e = .returned v ∧ Strs w' v [lockB, dgB n]) ∧ Below w.heap.size w w' := by
  have c1 := blk_cell h 1 _ hc
  have hI := fun v => itoa_one n hn v
  have hs : (dgB n).size ≤ maxLen := by show 1 ≤ _; unfold maxLen; omega
  clear h hc
  generalize dgB n = s at *
  go_enter Try.func69, Try.ntmps69
  go_wp2_with fail
  refine (hI w).mono ?_
  rintro e w1 ⟨rfl, rfl⟩
  go_wp2
  go_ret
  refine ⟨⟨_, rfl, ?_⟩, (Below.refl _ _).alloc (Nat.le_refl _) _⟩
  exact ⟨Row1.of_block (L := strV [lockB, s]) (fz := (0, 0)) (heap_alloc_last w1 _) (by rw [strV_len]; unfold maxLen; simp), fun x hx => by
    simp only [List.mem_cons, List.mem_nil_iff, or_false] at hx
    rcases hx with rfl | rfl
    · decide
    · exact hs⟩
theorem method_lock_words (a : Addr) (w : World) : (method 224 59 (.pointer (some a)) "noonbell/order.words").run Try.prog w = .ok (69, .pointer (some a)) w := by kernel_rfl
set_option maxHeartbeats 1600000 in
theorem print_lock5 (w : World) (v2 v3 v4 v5 v6 v7 v8 v9 v10 v11 v12 v13 v14 v15 v16 v17 : Value) :
    Calls Try.prog 6 #[.agg #[.int .i64 1, .int .i64 5, v2, v3, v4, v5, v6, v7, v8, v9, v10, v11, v12, v13, v14, v15, v16, v17]] w fun e w' => e = .returned (.string ⟨#[108, 111, 99, 107, 32, 53]⟩) ∧ Below w.heap.size w w' := by
  have h1 := fun W => lineOf_lock (.int .i64 5) v2 v3 v4 v5 v6 v7 v8 v9 v10 v11 v12 v13 v14 v15 v16 v17 W
  have b1 := (Below.refl w.heap.size w).alloc (Nat.le_refl _) (Obj.cells #[.int .i64 1, .int .i64 5, v2, v3, v4, v5, v6, v7, v8, v9, v10, v11, v12, v13, v14, v15, v16, v17] 29)
  go_enter Try.func6, Try.ntmps6
  go_wp2_with fail
  generalize w.alloc (Obj.cells #[.int .i64 1, .int .i64 5, v2, v3, v4, v5, v6, v7, v8, v9, v10, v11, v12, v13, v14, v15, v16, v17] 29) = W1 at *
  refine (h1 W1).mono ?_
  rintro e w2 ⟨rfl, hw2⟩
  have hb : w2.heap[W1.heap.size + 1]? = some (Obj.cells #[.int .i64 1, .int .i64 5, v2, v3, v4, v5, v6, v7, v8, v9, v10, v11, v12, v13, v14, v15, v16, v17] 61) := by rw [hw2]; exact heap_alloc2_new _ _ _
  have b2 : Below W1.heap.size W1 w2 := by rw [hw2]; exact alloc2_below _ _ _
  clear hw2 h1
  generalize W1.heap.size + 1 = b at *
  have hm := method_lock_words
  have hW := lockwords_few w2 b 5 _ (by omega) hb rfl
  clear hb
  go_wp2_with fail
  refine hW.mono ?_
  rintro e w3 ⟨⟨v, rfl, hv⟩, b3⟩
  have hJ := join_any w3 v _ hv (by decide)
  rw [show joinB [lockB, dgB 5] = ⟨#[108, 111, 99, 107, 32, 53]⟩ by decide] at hJ
  clear hW hv
  go_wp2_with fail
  refine hJ.mono ?_
  rintro e w4 ⟨rfl, b4⟩
  go_wp2
  go_ret
  exact ⟨rfl, chain2 (chain2 (chain2 b1 b2) b3) b4⟩
end Go.Proofs.Ythhikmlbpagknaa
