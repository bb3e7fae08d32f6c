/- book: May where it refuses, or takes a Lock; Add where it refuses. -/
import Derived.Test.YtbkobimbdiogfaaBCalls
namespace Go.Proofs.Ytbkobimbdiogfaa
open Go.RowKit Go.MapKept
set_option linter.unusedVariables false
set_option maxRecDepth 100000
set_option linter.unusedSimpArgs false

theorem below_drew1 (W : World) : Below W.heap.size W W.drew := ⟨rfl, rfl, rfl, Nat.le_refl _, fun _ _ => rfl⟩
theorem build_key (a b : Value) (w : World) : True := trivial
set_option maxHeartbeats 1600000 in
theorem mayCancel_none {O : Nat → Prop} {w : World} {v : Value} {N : List ByteArray} {S : ByteArray → Ps} (h : Bk O w v N S) (who : ByteArray) (hw : who.size ≤ 1099511627776) (s : Int) (hs : In64 s) (hn : (S who).live s = none) :
    Calls Try.prog 48 #[v, .string who, .int .i64 s] w fun e w' => e = .returned (.int .i64 102) ∧ Below w.heap.size w w' := by
  obtain ⟨C, bb, lb, ab, el, ea, cl, ca, rfl, hb⟩ := h
  rcases hb.order who s hw hs with ⟨_, hl⟩ | ⟨o, qv, ho, _⟩
  · have hl := hl w rfl
    unfold zeroAsk at hl
    have c0 := hb.cell0
    clear hb hw hs hn
    go_enter Try.func48, Try.ntmps48
    go_wp2_with (refine wpList_store_new rfl 28 _ _ rfl _ _ _ rfl (by simp) rfl 18 info_Ask (by rfl) (by rfl) (by simp [Value.oneCell']) ?_)
    go_ret
    exact ⟨rfl, (Below.refl w.heap.size w).alloc (Nat.le_refl _) _⟩
  · rw [hn] at ho; cases ho
set_option maxHeartbeats 1600000 in
theorem may_kind (v who : Value) (w : World) (k c s : Int) (v3 v4 v5 v6 v7 v8 v9 v10 v11 v12 v13 v14 v15 v16 v17 : Value) (hk : k < 1 ∨ 4 < k) :
    Calls Try.prog 30 #[v, who, .agg #[.int .i64 k, .int .i64 c, .int .i64 s, v3, v4, v5, v6, v7, v8, v9, v10, v11, v12, v13, v14, v15, v16, v17]] w fun e w' => e = .returned (.int .i64 1) ∧ Below w.heap.size w w' := by
  go_enter Try.func30, Try.ntmps30
  by_cases h1 : k < 1
  · go_wp2
    go_ret
    exact ⟨rfl, (Below.refl w.heap.size w).alloc (Nat.le_refl _) _⟩
  · have h2 : 4 < k := by omega
    have h1' : decide (k < 1) = false := by simpa using h1
    clear hk
    go_wp2
    go_ret
    exact ⟨rfl, (Below.refl w.heap.size w).alloc (Nat.le_refl _) _⟩
set_option maxHeartbeats 1600000 in
theorem may_quota {O : Nat → Prop} {w : World} {v : Value} {N : List ByteArray} {S : ByteArray → Ps} (h : Bk O w v N S) (who : ByteArray) (hw : who.size ≤ 1099511627776) (k c s : Int) (v3 v4 v5 v6 v7 v8 v9 v10 v11 v12 v13 v14 v15 v16 v17 : Value) (hk : 1 ≤ k ∧ k ≤ 4) (hq : 24 ≤ (S who).asks) :
    Calls Try.prog 30 #[v, .string who, .agg #[.int .i64 k, .int .i64 c, .int .i64 s, v3, v4, v5, v6, v7, v8, v9, v10, v11, v12, v13, v14, v15, v16, v17]] w fun e w' => e = .returned (.int .i64 101) ∧ Below w.heap.size w w' := by
  have b1 := (Below.refl w.heap.size w).alloc (Nat.le_refl _) (Obj.cells #[.int .i64 k, .int .i64 c, .int .i64 s, v3, v4, v5, v6, v7, v8, v9, v10, v11, v12, v13, v14, v15, v16, v17] 28)
  have hA := asks_any (h.below b1) who hw
  generalize (S who).asks = A at *
  have h1 : decide (k < 1) = false := by simp; omega
  have h2 : decide (4 < k) = false := by simp; omega
  clear h hk
  go_enter Try.func30, Try.ntmps30
  go_wp2_with fail
  generalize w.alloc (Obj.cells #[.int .i64 k, .int .i64 c, .int .i64 s, v3, v4, v5, v6, v7, v8, v9, v10, v11, v12, v13, v14, v15, v16, v17] 28) = W1 at *
  refine hA.mono ?_
  rintro e w2 ⟨rfl, rfl⟩
  go_wp2
  go_ret
  exact ⟨rfl, b1⟩
set_option maxHeartbeats 1600000 in
theorem may_lock {O : Nat → Prop} {w : World} {v : Value} {N : List ByteArray} {S : ByteArray → Ps} (h : Bk O w v N S) (who : ByteArray) (hw : who.size ≤ 1099511627776) (c s : Int) (v3 v4 v5 v6 v7 v8 v9 v10 v11 v12 v13 v14 v15 v16 v17 : Value) (hq : (S who).asks < 24) :
    Calls Try.prog 30 #[v, .string who, .agg #[.int .i64 1, .int .i64 c, .int .i64 s, v3, v4, v5, v6, v7, v8, v9, v10, v11, v12, v13, v14, v15, v16, v17]] w fun e w' => e = .returned (.int .i64 (lockE c)) ∧ Below w.heap.size w w' := by
  have b1 := (Below.refl w.heap.size w).alloc (Nat.le_refl _) (Obj.cells #[.int .i64 1, .int .i64 c, .int .i64 s, v3, v4, v5, v6, v7, v8, v9, v10, v11, v12, v13, v14, v15, v16, v17] 28)
  have hA := asks_any (h.below b1) who hw
  have c1 := blk_cell (heap_alloc_last w (Obj.cells #[.int .i64 1, .int .i64 c, .int .i64 s, v3, v4, v5, v6, v7, v8, v9, v10, v11, v12, v13, v14, v15, v16, v17] 28)) 1 (.int .i64 c) rfl
  have c0 := blk_cell (heap_alloc_last w (Obj.cells #[.int .i64 1, .int .i64 c, .int .i64 s, v3, v4, v5, v6, v7, v8, v9, v10, v11, v12, v13, v14, v15, v16, v17] 28)) 0 (.int .i64 1) rfl
  have hL := fun W => mayLock_any c W
  have hq' : decide (24 ≤ (S who).asks) = false := by simpa using hq
  generalize (S who).asks = A at *
  generalize lockE c = E at *
  clear h hq
  go_enter Try.func30, Try.ntmps30
  go_wp2_with fail
  generalize w.alloc (Obj.cells #[.int .i64 1, .int .i64 c, .int .i64 s, v3, v4, v5, v6, v7, v8, v9, v10, v11, v12, v13, v14, v15, v16, v17] 28) = W1 at *
  refine hA.mono ?_
  rintro e w2 ⟨rfl, rfl⟩
  go_wp2_with fail
  refine (hL _).mono ?_
  rintro e w2 ⟨rfl, rfl⟩
  go_wp2
  go_ret
  exact ⟨rfl, b1⟩
set_option maxHeartbeats 1600000 in
theorem may_cancel {O : Nat → Prop} {w : World} {v : Value} {N : List ByteArray} {S : ByteArray → Ps} (h : Bk O w v N S) (who : ByteArray) (hw : who.size ≤ 1099511627776) (c s : Int) (v3 v4 v5 v6 v7 v8 v9 v10 v11 v12 v13 v14 v15 v16 v17 : Value) (hq : (S who).asks < 24) (E : Int) (hC : ∀ W, Below w.heap.size w W → Calls Try.prog 48 #[v, .string who, .int .i64 s] W fun e w' => e = .returned (.int .i64 E) ∧ Below W.heap.size W w') :
    Calls Try.prog 30 #[v, .string who, .agg #[.int .i64 4, .int .i64 c, .int .i64 s, v3, v4, v5, v6, v7, v8, v9, v10, v11, v12, v13, v14, v15, v16, v17]] w fun e w' => e = .returned (.int .i64 E) ∧ Below w.heap.size w w' := by
  have b1 := (Below.refl w.heap.size w).alloc (Nat.le_refl _) (Obj.cells #[.int .i64 4, .int .i64 c, .int .i64 s, v3, v4, v5, v6, v7, v8, v9, v10, v11, v12, v13, v14, v15, v16, v17] 28)
  have hA := asks_any (h.below b1) who hw
  have c2 := blk_cell (heap_alloc_last w (Obj.cells #[.int .i64 4, .int .i64 c, .int .i64 s, v3, v4, v5, v6, v7, v8, v9, v10, v11, v12, v13, v14, v15, v16, v17] 28)) 2 (.int .i64 s) rfl
  have c0 := blk_cell (heap_alloc_last w (Obj.cells #[.int .i64 4, .int .i64 c, .int .i64 s, v3, v4, v5, v6, v7, v8, v9, v10, v11, v12, v13, v14, v15, v16, v17] 28)) 0 (.int .i64 4) rfl
  have hC := hC _ b1
  have hq' : decide (24 ≤ (S who).asks) = false := by simpa using hq
  generalize (S who).asks = A at *
  clear h hq
  go_enter Try.func30, Try.ntmps30
  go_wp2_with fail
  generalize w.alloc (Obj.cells #[.int .i64 4, .int .i64 c, .int .i64 s, v3, v4, v5, v6, v7, v8, v9, v10, v11, v12, v13, v14, v15, v16, v17] 28) = W1 at *
  refine hA.mono ?_
  rintro e w2 ⟨rfl, rfl⟩
  go_wp2_with fail
  refine hC.mono ?_
  rintro e w2 ⟨rfl, b2⟩
  go_wp2
  go_ret
  exact ⟨rfl, chain2 b1 b2⟩
set_option maxHeartbeats 1600000 in
/-- What May refuses Add refuses. -/
theorem add_refused (v who : Value) (w : World) (E k c s : Int) (v3 v4 v5 v6 v7 v8 v9 v10 v11 v12 v13 v14 v15 v16 v17 : Value) (hE : E ≠ 0) (hM : ∀ W, Below w.heap.size w W → Calls Try.prog 30 #[v, who, .agg #[.int .i64 k, .int .i64 c, .int .i64 s, v3, v4, v5, v6, v7, v8, v9, v10, v11, v12, v13, v14, v15, v16, v17]] W fun e w' => e = .returned (.int .i64 E) ∧ Below W.heap.size W w') :
    Calls Try.prog 14 #[v, who, .agg #[.int .i64 k, .int .i64 c, .int .i64 s, v3, v4, v5, v6, v7, v8, v9, v10, v11, v12, v13, v14, v15, v16, v17]] w fun e w' => e = .returned (.int .i64 E) ∧ Below w.heap.size w w' := by
  have b1 := (Below.refl w.heap.size w).alloc (Nat.le_refl _) (Obj.cells #[.int .i64 k, .int .i64 c, .int .i64 s, v3, v4, v5, v6, v7, v8, v9, v10, v11, v12, v13, v14, v15, v16, v17] 28)
  have hM := hM _ b1
  have hl := heap_alloc_last w (Obj.cells #[.int .i64 k, .int .i64 c, .int .i64 s, v3, v4, v5, v6, v7, v8, v9, v10, v11, v12, v13, v14, v15, v16, v17] 28)
  have a0 := blk_cell hl 0 (.int .i64 k) rfl
  have a1 := blk_cell hl 1 (.int .i64 c) rfl
  have a2 := blk_cell hl 2 (.int .i64 s) rfl
  have a3 := blk_cell hl 3 (v3) rfl
  have a4 := blk_cell hl 4 (v4) rfl
  have a5 := blk_cell hl 5 (v5) rfl
  have a6 := blk_cell hl 6 (v6) rfl
  have a7 := blk_cell hl 7 (v7) rfl
  have a8 := blk_cell hl 8 (v8) rfl
  have a9 := blk_cell hl 9 (v9) rfl
  have a10 := blk_cell hl 10 (v10) rfl
  have a11 := blk_cell hl 11 (v11) rfl
  have a12 := blk_cell hl 12 (v12) rfl
  have a13 := blk_cell hl 13 (v13) rfl
  have a14 := blk_cell hl 14 (v14) rfl
  have a15 := blk_cell hl 15 (v15) rfl
  have a16 := blk_cell hl 16 (v16) rfl
  have a17 := blk_cell hl 17 (v17) rfl
  clear hl
  go_enter Try.func14, Try.ntmps14
  go_wp2_with fail
  generalize w.alloc (Obj.cells #[.int .i64 k, .int .i64 c, .int .i64 s, v3, v4, v5, v6, v7, v8, v9, v10, v11, v12, v13, v14, v15, v16, v17] 28) = W1 at *
  refine hM.mono ?_
  rintro e w2 ⟨rfl, b2⟩
  go_wp2
  go_ret
  exact ⟨rfl, chain2 b1 b2⟩
end Go.Proofs.Ytbkobimbdiogfaa
