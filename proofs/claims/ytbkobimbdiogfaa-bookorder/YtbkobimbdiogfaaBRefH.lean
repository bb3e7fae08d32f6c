/- BookOrder: what an Ask may cost, by the document. -/
import Derived.Test.YtbkobimbdiogfaaBRefG
namespace Go.Proofs.Ytbkobimbdiogfaa
open Go.RowKit Go.MapKept
set_option linter.unusedVariables false
set_option maxRecDepth 100000
set_option linter.unusedSimpArgs false

set_option maxHeartbeats 3200000 in
theorem jowes_step (z : Kb) (w : World) (hk : z.kind = 2) (hi : Ints w z.qv z.Q) :
    Calls Try.prog 10 #[.agg (kbC z)] w fun e w' => e = .returned (.int .i64 (dear z.sbuy z.sprice z.sqty)) ∧ Below w.heap.size w w' := by
  obtain ⟨qa, qc, hq0, hqc, hqm⟩ := hi.slice
  unfold kbC
  rw [hq0, hk]
  clear hi hq0 hk
  have b1 := (Below.refl w.heap.size w).alloc (Nat.le_refl _) (Obj.cells #[.int .i64 2, .int .i64 z.cents, .int .i64 z.seq, .string z.swho, .int .i64 z.sseq, .int .i64 z.szone, .int .i64 z.shour, .bool z.sbuy, .int .i64 z.sqty, .int .i64 z.sprice, .string z.bwho, .int .i64 z.bseq, .int .i64 z.bzone, .bool z.bbuy, .int .i64 z.bprice, .slice qa z.Q.length qc, .int .i64 z.parent, .int .i64 z.group] 31)
  go_enter Try.func10, Try.ntmps10
  generalize z.sbuy = B at *
  generalize z.sprice = p at *
  generalize z.sqty = q at *
  cases B
  · obtain ⟨M, hM⟩ : ∃ M : Int, M = max (wrap64 (-p)) 0 := ⟨_, rfl⟩
    have m1 : max (0 : Int) (wrap64 (-p)) = M := by omega
    have m2 : (if (0 : Int) < wrap64 (-p) then wrap64 (-p) else (0 : Int)) = M := by split <;> omega
    have m3 : (if wrap64 (-p) < (0 : Int) then (0 : Int) else wrap64 (-p)) = M := by split <;> omega
    have HD := hid (show dear false p q = wrap64 (M * q) by rw [hM]; simp [dear])
    clear hM
    go_wp2
    go_ret
    exact ⟨by rw [HD.out]; first | rfl | simp [m1, m2, m3] | (rw [m1]) , by first | exact b1 | exact b1.drew⟩
  · obtain ⟨M, hM⟩ : ∃ M : Int, M = max (p) 0 := ⟨_, rfl⟩
    have m1 : max (0 : Int) (p) = M := by omega
    have m2 : (if (0 : Int) < p then p else (0 : Int)) = M := by split <;> omega
    have m3 : (if p < (0 : Int) then (0 : Int) else p) = M := by split <;> omega
    have HD := hid (show dear true p q = wrap64 (M * q) by rw [hM]; simp [dear])
    clear hM
    go_wp2
    go_ret
    exact ⟨by rw [HD.out]; first | rfl | simp [m1, m2, m3] | (rw [m1]) , by first | exact b1 | exact b1.drew⟩
set_option maxHeartbeats 3200000 in
theorem jowes_block (z : Kb) (w : World) (hk : z.kind = 3) (hi : Ints w z.qv z.Q) :
    Calls Try.prog 10 #[.agg (kbC z)] w fun e w' => e = .returned (.int .i64 (dear z.bbuy z.bprice (sumW z.Q))) ∧ Below w.heap.size w w' := by
  obtain ⟨qa, qc, hq0, hqc, hqm⟩ := hi.slice
  unfold kbC
  rw [hq0] at hi
  rw [hq0, hk]
  unfold maxLen at hqm
  have b1 := (Below.refl w.heap.size w).alloc (Nat.le_refl _) (Obj.cells #[.int .i64 3, .int .i64 z.cents, .int .i64 z.seq, .string z.swho, .int .i64 z.sseq, .int .i64 z.szone, .int .i64 z.shour, .bool z.sbuy, .int .i64 z.sqty, .int .i64 z.sprice, .string z.bwho, .int .i64 z.bseq, .int .i64 z.bzone, .bool z.bbuy, .int .i64 z.bprice, .slice qa z.Q.length qc, .int .i64 z.parent, .int .i64 z.group] 31)
  have e1 := heap_alloc_last w (Obj.cells #[.int .i64 3, .int .i64 z.cents, .int .i64 z.seq, .string z.swho, .int .i64 z.sseq, .int .i64 z.szone, .int .i64 z.shour, .bool z.sbuy, .int .i64 z.sqty, .int .i64 z.sprice, .string z.bwho, .int .i64 z.bseq, .int .i64 z.bzone, .bool z.bbuy, .int .i64 z.bprice, .slice qa z.Q.length qc, .int .i64 z.parent, .int .i64 z.group] 31)
  have c15 := blk_cell e1 15 (.slice qa z.Q.length qc) rfl
  have HI := hid (hi.below b1)
  clear hi hq0 hk e1
  generalize hqq : sumW z.Q = q
  have HQ := hid hqq
  clear hqq
  generalize z.bbuy = B at *
  generalize z.bprice = p at *
  go_enter Try.func10, Try.ntmps10
  go_wp2
  generalize w.alloc (Obj.cells #[.int .i64 3, .int .i64 z.cents, .int .i64 z.seq, .string z.swho, .int .i64 z.sseq, .int .i64 z.szone, .int .i64 z.shour, .bool z.sbuy, .int .i64 z.sqty, .int .i64 z.sprice, .string z.bwho, .int .i64 z.bseq, .int .i64 z.bzone, .bool B, .int .i64 p, .slice qa z.Q.length qc, .int .i64 z.parent, .int .i64 z.group] 31) = W1 at *
  go_loopw [4, 6] (fun s i wr => ∃ k : Nat, k ≤ z.Q.length ∧ s = .int .i64 (sumW (z.Q.take k)) ∧ i = .int .i64 (k : Int) ∧ wr = W1) (fun _ i _ => z.Q.length - (intOf i).toNat)
  case atStart => exact ⟨0, Nat.zero_le _, rfl, rfl, rfl⟩
  case round =>
    obtain ⟨k, hk, rfl, rfl, rfl⟩ := hrel
    by_cases hlt : k < z.Q.length
    · obtain ⟨g1, o1, d1, e1, l1, m1, f1⟩ := HI.out.at k hlt
      simp only [Value.slice.injEq] at e1
      obtain ⟨rfl, _, rfl⟩ := e1
      have HS := hid (sumW_succ z.Q k hlt)
      generalize z.Q[k] = x at *
      generalize sumW (z.Q.take k) = S at *
      go_wp2
      go_roundw
      case rel => exact ⟨k + 1, by omega, by rw [HS.out], by go_num, by simp⟩
      case measure => simp [intOf]; omega
    · obtain rfl : k = z.Q.length := by omega
      rw [List.take_length, HQ.out]
      cases B
      · obtain ⟨M, hM⟩ : ∃ M : Int, M = max (wrap64 (-p)) 0 := ⟨_, rfl⟩
        have m1 : max (0 : Int) (wrap64 (-p)) = M := by omega
        have m2 : (if (0 : Int) < wrap64 (-p) then wrap64 (-p) else (0 : Int)) = M := by split <;> omega
        have m3 : (if wrap64 (-p) < (0 : Int) then (0 : Int) else wrap64 (-p)) = M := by split <;> omega
        have HD := hid (show dear false p q = wrap64 (M * q) by rw [hM]; simp [dear])
        clear hM
        go_wp2
        go_ret
        exact ⟨by rw [HD.out]; first | rfl | simp [m1, m2, m3] | (rw [m1]), by first | exact b1 | exact b1.drew⟩
      · obtain ⟨M, hM⟩ : ∃ M : Int, M = max (p) 0 := ⟨_, rfl⟩
        have m1 : max (0 : Int) (p) = M := by omega
        have m2 : (if (0 : Int) < p then p else (0 : Int)) = M := by split <;> omega
        have m3 : (if p < (0 : Int) then (0 : Int) else p) = M := by split <;> omega
        have HD := hid (show dear true p q = wrap64 (M * q) by rw [hM]; simp [dear])
        clear hM
        go_wp2
        go_ret
        exact ⟨by rw [HD.out]; first | rfl | simp [m1, m2, m3] | (rw [m1]), by first | exact b1 | exact b1.drew⟩
theorem jowes_any (z : Kb) (w : World) (hk : z.kind = 2 ∨ z.kind = 3) (hi : Ints w z.qv z.Q) :
    Calls Try.prog 10 #[.agg (kbC z)] w fun e w' => e = .returned (.int .i64 (kbO z).cost) ∧ Below w.heap.size w w' := by
  rcases hk with h | h
  · rw [kbO_step h]; exact jowes_step z w h hi
  · rw [kbO_block h]; exact jowes_block z w h hi
end Go.Proofs.Ytbkobimbdiogfaa
