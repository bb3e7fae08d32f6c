/- book: May. -/
import Derived.Test.YtbkobimbdiogfaaBMayO
namespace Go.Proofs.Ytbkobimbdiogfaa
open Go.RowKit Go.MapKept
set_option linter.unusedVariables false
set_option maxRecDepth 100000
set_option linter.unusedSimpArgs false

set_option maxHeartbeats 3200000 in
theorem may_order2 {O : Nat → Prop} {w : World} {v : Value} {N : List ByteArray} {S : ByteArray → Ps} (h : Bk O w v N S) (who : ByteArray) (hw : who.size ≤ 1099511627776) (z : Kb) (hk : z.kind = 2) (hz : KbFits w z) (hq : (S who).asks < 24) :
    Calls Try.prog 30 #[v, .string who, .agg (kbC z)] w fun e w' => e = .returned (.int .i64 (ordE (S who) z)) ∧ Below w.heap.size w w' := by
  have b1 := (Below.refl w.heap.size w).alloc (Nat.le_refl _) (Obj.cells #[.int .i64 2, .int .i64 z.cents, .int .i64 z.seq, .string z.swho, .int .i64 z.sseq, .int .i64 z.szone, .int .i64 z.shour, .bool z.sbuy, .int .i64 z.sqty, .int .i64 z.sprice, .string z.bwho, .int .i64 z.bseq, .int .i64 z.bzone, .bool z.bbuy, .int .i64 z.bprice, z.qv, .int .i64 z.parent, .int .i64 z.group] 28)
  have hA := asks_any (h.below b1) who hw
  have hM := mayOrder_any (h.below b1) who hw z (by omega) (hz.below b1)
  have gn := heap_alloc_last w (Obj.cells #[.int .i64 2, .int .i64 z.cents, .int .i64 z.seq, .string z.swho, .int .i64 z.sseq, .int .i64 z.szone, .int .i64 z.shour, .bool z.sbuy, .int .i64 z.sqty, .int .i64 z.sprice, .string z.bwho, .int .i64 z.bseq, .int .i64 z.bzone, .bool z.bbuy, .int .i64 z.bprice, z.qv, .int .i64 z.parent, .int .i64 z.group] 28)
  unfold kbC at hM ⊢
  rw [hk] at hM ⊢
  have hq' : decide (24 ≤ (S who).asks) = false := by simpa using hq
  generalize (S who).asks = A at *
  generalize ordE (S who) z = E at *
  clear h hq
  go_enter Try.func30, Try.ntmps30
  go_wp2_with fail
  generalize w.alloc (Obj.cells #[.int .i64 2, .int .i64 z.cents, .int .i64 z.seq, .string z.swho, .int .i64 z.sseq, .int .i64 z.szone, .int .i64 z.shour, .bool z.sbuy, .int .i64 z.sqty, .int .i64 z.sprice, .string z.bwho, .int .i64 z.bseq, .int .i64 z.bzone, .bool z.bbuy, .int .i64 z.bprice, z.qv, .int .i64 z.parent, .int .i64 z.group] 28) = W1 at *
  have a0 := blk_cell gn 0 (.int .i64 2) rfl
  have a1 := blk_cell gn 1 (.int .i64 z.cents) rfl
  have a2 := blk_cell gn 2 (.int .i64 z.seq) rfl
  have a3 := blk_cell gn 3 (.string z.swho) rfl
  have a4 := blk_cell gn 4 (.int .i64 z.sseq) rfl
  have a5 := blk_cell gn 5 (.int .i64 z.szone) rfl
  have a6 := blk_cell gn 6 (.int .i64 z.shour) rfl
  have a7 := blk_cell gn 7 (.bool z.sbuy) rfl
  have a8 := blk_cell gn 8 (.int .i64 z.sqty) rfl
  have a9 := blk_cell gn 9 (.int .i64 z.sprice) rfl
  have a10 := blk_cell gn 10 (.string z.bwho) rfl
  have a11 := blk_cell gn 11 (.int .i64 z.bseq) rfl
  have a12 := blk_cell gn 12 (.int .i64 z.bzone) rfl
  have a13 := blk_cell gn 13 (.bool z.bbuy) rfl
  have a14 := blk_cell gn 14 (.int .i64 z.bprice) rfl
  have a15 := blk_cell gn 15 (z.qv) rfl
  have a16 := blk_cell gn 16 (.int .i64 z.parent) rfl
  have a17 := blk_cell gn 17 (.int .i64 z.group) rfl
  refine hA.mono ?_
  rintro e w2 ⟨rfl, hw2⟩
  subst hw2
  go_wp2_with fail
  refine hM.mono ?_
  rintro e w3 ⟨rfl, b3⟩
  clear a0 a1 a2 a3 a4 a5 a6 a7 a8 a9 a10 a11 a12 a13 a14 a15 a16 a17
  go_wp2
  go_ret
  exact ⟨rfl, chain2 b1 b3⟩
set_option maxHeartbeats 3200000 in
theorem may_order3 {O : Nat → Prop} {w : World} {v : Value} {N : List ByteArray} {S : ByteArray → Ps} (h : Bk O w v N S) (who : ByteArray) (hw : who.size ≤ 1099511627776) (z : Kb) (hk : z.kind = 3) (hz : KbFits w z) (hq : (S who).asks < 24) :
    Calls Try.prog 30 #[v, .string who, .agg (kbC z)] w fun e w' => e = .returned (.int .i64 (ordE (S who) z)) ∧ Below w.heap.size w w' := by
  have b1 := (Below.refl w.heap.size w).alloc (Nat.le_refl _) (Obj.cells #[.int .i64 3, .int .i64 z.cents, .int .i64 z.seq, .string z.swho, .int .i64 z.sseq, .int .i64 z.szone, .int .i64 z.shour, .bool z.sbuy, .int .i64 z.sqty, .int .i64 z.sprice, .string z.bwho, .int .i64 z.bseq, .int .i64 z.bzone, .bool z.bbuy, .int .i64 z.bprice, z.qv, .int .i64 z.parent, .int .i64 z.group] 28)
  have hA := asks_any (h.below b1) who hw
  have hM := mayOrder_any (h.below b1) who hw z (by omega) (hz.below b1)
  have gn := heap_alloc_last w (Obj.cells #[.int .i64 3, .int .i64 z.cents, .int .i64 z.seq, .string z.swho, .int .i64 z.sseq, .int .i64 z.szone, .int .i64 z.shour, .bool z.sbuy, .int .i64 z.sqty, .int .i64 z.sprice, .string z.bwho, .int .i64 z.bseq, .int .i64 z.bzone, .bool z.bbuy, .int .i64 z.bprice, z.qv, .int .i64 z.parent, .int .i64 z.group] 28)
  unfold kbC at hM ⊢
  rw [hk] at hM ⊢
  have hq' : decide (24 ≤ (S who).asks) = false := by simpa using hq
  generalize (S who).asks = A at *
  generalize ordE (S who) z = E at *
  clear h hq
  go_enter Try.func30, Try.ntmps30
  go_wp2_with fail
  generalize w.alloc (Obj.cells #[.int .i64 3, .int .i64 z.cents, .int .i64 z.seq, .string z.swho, .int .i64 z.sseq, .int .i64 z.szone, .int .i64 z.shour, .bool z.sbuy, .int .i64 z.sqty, .int .i64 z.sprice, .string z.bwho, .int .i64 z.bseq, .int .i64 z.bzone, .bool z.bbuy, .int .i64 z.bprice, z.qv, .int .i64 z.parent, .int .i64 z.group] 28) = W1 at *
  have a0 := blk_cell gn 0 (.int .i64 3) rfl
  have a1 := blk_cell gn 1 (.int .i64 z.cents) rfl
  have a2 := blk_cell gn 2 (.int .i64 z.seq) rfl
  have a3 := blk_cell gn 3 (.string z.swho) rfl
  have a4 := blk_cell gn 4 (.int .i64 z.sseq) rfl
  have a5 := blk_cell gn 5 (.int .i64 z.szone) rfl
  have a6 := blk_cell gn 6 (.int .i64 z.shour) rfl
  have a7 := blk_cell gn 7 (.bool z.sbuy) rfl
  have a8 := blk_cell gn 8 (.int .i64 z.sqty) rfl
  have a9 := blk_cell gn 9 (.int .i64 z.sprice) rfl
  have a10 := blk_cell gn 10 (.string z.bwho) rfl
  have a11 := blk_cell gn 11 (.int .i64 z.bseq) rfl
  have a12 := blk_cell gn 12 (.int .i64 z.bzone) rfl
  have a13 := blk_cell gn 13 (.bool z.bbuy) rfl
  have a14 := blk_cell gn 14 (.int .i64 z.bprice) rfl
  have a15 := blk_cell gn 15 (z.qv) rfl
  have a16 := blk_cell gn 16 (.int .i64 z.parent) rfl
  have a17 := blk_cell gn 17 (.int .i64 z.group) rfl
  refine hA.mono ?_
  rintro e w2 ⟨rfl, hw2⟩
  subst hw2
  go_wp2_with fail
  refine hM.mono ?_
  rintro e w3 ⟨rfl, b3⟩
  clear a0 a1 a2 a3 a4 a5 a6 a7 a8 a9 a10 a11 a12 a13 a14 a15 a16 a17
  go_wp2
  go_ret
  exact ⟨rfl, chain2 b1 b3⟩
/-- What May answers. -/
def mayE (p : Ps) (z : Kb) : Int :=
  if z.kind < 1 ∨ 4 < z.kind then 1
  else if 24 ≤ p.asks then 101
  else if z.kind = 1 then lockE z.cents
  else if z.kind = 4 then canE p z.seq
  else ordE p z
theorem may_any {O : Nat → Prop} {w : World} {v : Value} {N : List ByteArray} {S : ByteArray → Ps} (h : Bk O w v N S) (who : ByteArray) (hw : who.size ≤ 1099511627776) (z : Kb) (hz : KbFits w z) :
    Calls Try.prog 30 #[v, .string who, .agg (kbC z)] w fun e w' => e = .returned (.int .i64 (mayE (S who) z)) ∧ Below w.heap.size w w' := by
  unfold mayE
  by_cases e1 : z.kind < 1 ∨ 4 < z.kind
  · rw [if_pos e1]
    exact may_kind v (.string who) w z.kind z.cents z.seq (.string z.swho) (.int .i64 z.sseq) (.int .i64 z.szone) (.int .i64 z.shour) (.bool z.sbuy) (.int .i64 z.sqty) (.int .i64 z.sprice) (.string z.bwho) (.int .i64 z.bseq) (.int .i64 z.bzone) (.bool z.bbuy) (.int .i64 z.bprice) z.qv (.int .i64 z.parent) (.int .i64 z.group) e1
  rw [if_neg e1]
  by_cases e2 : 24 ≤ (S who).asks
  · rw [if_pos e2]
    exact may_quota h who hw z.kind z.cents z.seq (.string z.swho) (.int .i64 z.sseq) (.int .i64 z.szone) (.int .i64 z.shour) (.bool z.sbuy) (.int .i64 z.sqty) (.int .i64 z.sprice) (.string z.bwho) (.int .i64 z.bseq) (.int .i64 z.bzone) (.bool z.bbuy) (.int .i64 z.bprice) z.qv (.int .i64 z.parent) (.int .i64 z.group) (by omega) e2
  rw [if_neg e2]
  by_cases e3 : z.kind = 1
  · rw [if_pos e3]
    have := may_lock h who hw z.cents z.seq (.string z.swho) (.int .i64 z.sseq) (.int .i64 z.szone) (.int .i64 z.shour) (.bool z.sbuy) (.int .i64 z.sqty) (.int .i64 z.sprice) (.string z.bwho) (.int .i64 z.bseq) (.int .i64 z.bzone) (.bool z.bbuy) (.int .i64 z.bprice) z.qv (.int .i64 z.parent) (.int .i64 z.group) (by omega)
    unfold kbC
    rw [e3]
    exact this
  rw [if_neg e3]
  by_cases e4 : z.kind = 4
  · rw [if_pos e4]
    have := may_cancel h who hw z.cents z.seq (.string z.swho) (.int .i64 z.sseq) (.int .i64 z.szone) (.int .i64 z.shour) (.bool z.sbuy) (.int .i64 z.sqty) (.int .i64 z.sprice) (.string z.bwho) (.int .i64 z.bseq) (.int .i64 z.bzone) (.bool z.bbuy) (.int .i64 z.bprice) z.qv (.int .i64 z.parent) (.int .i64 z.group) (by omega) _ (fun W b => mayCancel_any (h.below b) who hw z.seq hz.seq)
    unfold kbC
    rw [e4]
    exact this
  rw [if_neg e4]
  by_cases e5 : z.kind = 2
  · exact may_order2 h who hw z e5 hz (by omega)
  · exact may_order3 h who hw z (by omega) hz (by omega)
/-- What is refused changes nothing. -/
theorem add_no {O : Nat → Prop} {w : World} {v : Value} {N : List ByteArray} {S : ByteArray → Ps} (h : Bk O w v N S) (who : ByteArray) (hw : who.size ≤ 1099511627776) (z : Kb) (hz : KbFits w z) (hE : mayE (S who) z ≠ 0) :
    Calls Try.prog 14 #[v, .string who, .agg (kbC z)] w fun e w' => e = .returned (.int .i64 (mayE (S who) z)) ∧ Below w.heap.size w w' :=
  add_refused v (.string who) w (mayE (S who) z) z.kind z.cents z.seq (.string z.swho) (.int .i64 z.sseq) (.int .i64 z.szone) (.int .i64 z.shour) (.bool z.sbuy) (.int .i64 z.sqty) (.int .i64 z.sprice) (.string z.bwho) (.int .i64 z.bseq) (.int .i64 z.bzone) (.bool z.bbuy) (.int .i64 z.bprice) z.qv (.int .i64 z.parent) (.int .i64 z.group) hE (fun W b => may_any (h.below b) who hw z (hz.below b))
end Go.Proofs.Ytbkobimbdiogfaa
