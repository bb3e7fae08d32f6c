/- order: Owes, kind by kind. -/
import Derived.Test.YtbkobimbdiogfaaKOwes
namespace Go.Proofs.Ytbkobimbdiogfaa
open Go.RowKit
set_option linter.unusedVariables false
set_option maxRecDepth 100000
set_option linter.unusedSimpArgs false

set_option maxHeartbeats 1600000 in
theorem owes_lock (w : World) (v1 v2 v3 v4 v5 v6 v7 v8 v9 v10 v11 v12 v13 v14 v15 v16 v17 : Value) : Calls Try.prog 9 #[.agg #[.int .i64 1, v1, v2, v3, v4, v5, v6, v7, v8, v9, v10, v11, v12, v13, v14, v15, v16, v17]] w fun e w' => e = .returned (.int .i64 0) ∧ Below w.heap.size w w' := by
  have h1 := fun W => lineOf_lock v1 v2 v3 v4 v5 v6 v7 v8 v9 v10 v11 v12 v13 v14 v15 v16 v17 W
  have b1 := (Below.refl w.heap.size w).alloc (Nat.le_refl _) (Obj.cells #[.int .i64 1, v1, v2, v3, v4, v5, v6, v7, v8, v9, v10, v11, v12, v13, v14, v15, v16, v17] 28)
  go_enter Try.func9, Try.ntmps9
  go_wp2_with fail
  generalize w.alloc (Obj.cells #[.int .i64 1, v1, v2, v3, v4, v5, v6, v7, v8, v9, v10, v11, v12, v13, v14, v15, v16, v17] 28) = W1 at *
  refine (h1 W1).mono ?_
  rintro e w2 ⟨rfl, hw2⟩
  have hb : w2.heap[W1.heap.size + 1]? = some (Obj.cells #[.int .i64 1, v1, v2, v3, v4, v5, v6, v7, v8, v9, v10, v11, v12, v13, v14, v15, v16, v17] 91) := by rw [hw2]; exact heap_alloc2_new _ _ _
  have b2 : Below W1.heap.size W1 w2 := by rw [hw2]; exact alloc2_below _ _ _
  clear hw2 h1
  generalize W1.heap.size + 1 = b at *
  go_wp2_with fail
  refine (costOf_lock w2 b).mono ?_
  rintro e w3 ⟨rfl, rfl⟩
  go_wp2
  go_ret
  exact ⟨rfl, chain2 b1 b2⟩
set_option maxHeartbeats 1600000 in
theorem owes_step (w : World) (v1 v2 v3 v4 v5 v6 v10 v11 v12 v13 v14 v15 v16 v17 : Value) (buy : Bool) (q p : Int) : Calls Try.prog 9 #[.agg #[.int .i64 2, v1, v2, v3, v4, v5, v6, .bool buy, .int .i64 q, .int .i64 p, v10, v11, v12, v13, v14, v15, v16, v17]] w fun e w' => e = .returned (.int .i64 (dear buy p q)) ∧ Below w.heap.size w w' := by
  have h1 := fun W => lineOf_step v1 v2 v3 v4 v5 v6 (.bool buy) (.int .i64 q) (.int .i64 p) v10 v11 v12 v13 v14 v15 v16 v17 W
  have b1 := (Below.refl w.heap.size w).alloc (Nat.le_refl _) (Obj.cells #[.int .i64 2, v1, v2, v3, v4, v5, v6, .bool buy, .int .i64 q, .int .i64 p, v10, v11, v12, v13, v14, v15, v16, v17] 28)
  go_enter Try.func9, Try.ntmps9
  go_wp2_with fail
  generalize w.alloc (Obj.cells #[.int .i64 2, v1, v2, v3, v4, v5, v6, .bool buy, .int .i64 q, .int .i64 p, v10, v11, v12, v13, v14, v15, v16, v17] 28) = W1 at *
  refine (h1 W1).mono ?_
  rintro e w2 ⟨rfl, hw2⟩
  have hb : w2.heap[W1.heap.size + 1]? = some (Obj.cells #[v3, v4, v5, v6, .bool buy, .int .i64 q, .int .i64 p] 94) := by rw [hw2]; exact heap_alloc2_new _ _ _
  have b2 : Below W1.heap.size W1 w2 := by rw [hw2]; exact alloc2_below _ _ _
  clear hw2 h1
  generalize W1.heap.size + 1 = b at *
  go_wp2_with fail
  refine (costOf_step w2 b v3 v4 v5 v6 buy q p hb).mono ?_
  rintro e w3 ⟨rfl, b3⟩
  go_wp2
  go_ret
  exact ⟨rfl, chain2 (chain2 b1 b2) b3⟩
set_option maxHeartbeats 1600000 in
theorem owes_block (w : World) (v1 v2 v3 v4 v5 v6 v7 v8 v9 v10 v11 v12 v16 v17 : Value) (v : Value) (buy : Bool) (p : Int) (L : List Int) (hL : Ints w v L) : Calls Try.prog 9 #[.agg #[.int .i64 3, v1, v2, v3, v4, v5, v6, v7, v8, v9, v10, v11, v12, .bool buy, .int .i64 p, v, v16, v17]] w fun e w' => e = .returned (.int .i64 (dear buy p (sumW L))) ∧ Below w.heap.size w w' := by
  have h1 := fun W => lineOf_block v1 v2 v3 v4 v5 v6 v7 v8 v9 v10 v11 v12 (.bool buy) (.int .i64 p) v v16 v17 W
  have b1 := (Below.refl w.heap.size w).alloc (Nat.le_refl _) (Obj.cells #[.int .i64 3, v1, v2, v3, v4, v5, v6, v7, v8, v9, v10, v11, v12, .bool buy, .int .i64 p, v, v16, v17] 28)
  go_enter Try.func9, Try.ntmps9
  go_wp2_with fail
  generalize w.alloc (Obj.cells #[.int .i64 3, v1, v2, v3, v4, v5, v6, v7, v8, v9, v10, v11, v12, .bool buy, .int .i64 p, v, v16, v17] 28) = W1 at *
  refine (h1 W1).mono ?_
  rintro e w2 ⟨rfl, hw2⟩
  have hb : w2.heap[W1.heap.size + 1]? = some (Obj.cells #[v10, v11, v12, .bool buy, .int .i64 p, v, v16, v17] 97) := by rw [hw2]; exact heap_alloc2_new _ _ _
  have b2 : Below W1.heap.size W1 w2 := by rw [hw2]; exact alloc2_below _ _ _
  clear hw2 h1
  generalize W1.heap.size + 1 = b at *
  go_wp2_with fail
  refine (costOf_block w2 b v10 v11 v12 v16 v17 v buy p L (hL.below (chain2 b1 b2)) hb).mono ?_
  rintro e w3 ⟨rfl, b3⟩
  go_wp2
  go_ret
  exact ⟨rfl, chain2 (chain2 b1 b2) b3⟩
set_option maxHeartbeats 1600000 in
theorem owes_cancel (w : World) (v1 v2 v3 v4 v5 v6 v7 v8 v9 v10 v11 v12 v13 v14 v15 v16 v17 : Value) : Calls Try.prog 9 #[.agg #[.int .i64 4, v1, v2, v3, v4, v5, v6, v7, v8, v9, v10, v11, v12, v13, v14, v15, v16, v17]] w fun e w' => e = .returned (.int .i64 0) ∧ Below w.heap.size w w' := by
  have h1 := fun W => lineOf_cancel v1 v2 v3 v4 v5 v6 v7 v8 v9 v10 v11 v12 v13 v14 v15 v16 v17 W
  have b1 := (Below.refl w.heap.size w).alloc (Nat.le_refl _) (Obj.cells #[.int .i64 4, v1, v2, v3, v4, v5, v6, v7, v8, v9, v10, v11, v12, v13, v14, v15, v16, v17] 28)
  go_enter Try.func9, Try.ntmps9
  go_wp2_with fail
  generalize w.alloc (Obj.cells #[.int .i64 4, v1, v2, v3, v4, v5, v6, v7, v8, v9, v10, v11, v12, v13, v14, v15, v16, v17] 28) = W1 at *
  refine (h1 W1).mono ?_
  rintro e w2 ⟨rfl, hw2⟩
  have hb : w2.heap[W1.heap.size + 1]? = some (Obj.cells #[.int .i64 4, v1, v2, v3, v4, v5, v6, v7, v8, v9, v10, v11, v12, v13, v14, v15, v16, v17] 99) := by rw [hw2]; exact heap_alloc2_new _ _ _
  have b2 : Below W1.heap.size W1 w2 := by rw [hw2]; exact alloc2_below _ _ _
  clear hw2 h1
  generalize W1.heap.size + 1 = b at *
  go_wp2_with fail
  refine (costOf_cancel w2 b).mono ?_
  rintro e w3 ⟨rfl, rfl⟩
  go_wp2
  go_ret
  exact ⟨rfl, chain2 b1 b2⟩
set_option maxHeartbeats 1600000 in
theorem owes_none (w : World) (k : Int) (v1 v2 v3 v4 v5 v6 v7 v8 v9 v10 v11 v12 v13 v14 v15 v16 v17 : Value) (h : k < 1 ∨ 4 < k) : Calls Try.prog 9 #[.agg #[.int .i64 k, v1, v2, v3, v4, v5, v6, v7, v8, v9, v10, v11, v12, v13, v14, v15, v16, v17]] w fun e w' => e = .returned (.int .i64 0) ∧ Below w.heap.size w w' := by
  have h1 := fun W => lineOf_none k v1 v2 v3 v4 v5 v6 v7 v8 v9 v10 v11 v12 v13 v14 v15 v16 v17 W h
  have b1 := (Below.refl w.heap.size w).alloc (Nat.le_refl _) (Obj.cells #[.int .i64 k, v1, v2, v3, v4, v5, v6, v7, v8, v9, v10, v11, v12, v13, v14, v15, v16, v17] 28)
  clear h
  go_enter Try.func9, Try.ntmps9
  go_wp2_with fail
  generalize w.alloc (Obj.cells #[.int .i64 k, v1, v2, v3, v4, v5, v6, v7, v8, v9, v10, v11, v12, v13, v14, v15, v16, v17] 28) = W1 at *
  refine (h1 W1).mono ?_
  rintro e w2 ⟨rfl, hw2⟩
  have b2 : Below W1.heap.size W1 w2 := by rw [hw2]; exact (Below.refl _ _).alloc (Nat.le_refl _) _
  clear hw2 h1
  go_wp2_with fail
  refine (costOf_none w2).mono ?_
  rintro e w3 ⟨rfl, rfl⟩
  go_wp2
  go_ret
  exact ⟨rfl, chain2 b1 b2⟩
end Go.Proofs.Ytbkobimbdiogfaa
