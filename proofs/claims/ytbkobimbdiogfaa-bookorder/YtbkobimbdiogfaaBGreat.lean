/- The laws of book: great, below. -/
import Derived.Test.YtbkobimbdiogfaaBGood
import Derived.BigQuiet
import Derived.Deep.QuietTactic
namespace Go.Proofs.Ytbkobimbdiogfaa
open Go.RowKit Go.MapKept
set_option linter.unusedVariables false
set_option maxRecDepth 100000
set_option linter.unusedSimpArgs false

/-- Within 10^6. -/
structure Near (z : Kb) : Prop where
  sq : -1000000 ≤ z.sqty ∧ z.sqty ≤ 1000000
  sp : -1000000 ≤ z.sprice ∧ z.sprice ≤ 1000000
  bp : -1000000 ≤ z.bprice ∧ z.bprice ≤ 1000000
  len : z.Q.length ≤ 16
  q : ∀ x ∈ z.Q, -1000000 ≤ x ∧ x ≤ 1000000
theorem three_below (w : World) (A B C : Obj) : Below w.heap.size w (((w.alloc A).alloc B).alloc C) := (alloc2_below w A B).alloc (by simp; omega) C
set_option maxHeartbeats 6400000 in
theorem great10_any (z : Kb) (w : World) (hi : Ints w z.qv z.Q) :
    Calls Try.prog 13 #[.agg (kbC z)] w fun e w' => (e = .returned (.bool true) ∨ (e = .returned (.bool false) ∧ Near z)) ∧ Below w.heap.size w w' := by
  obtain ⟨Post, hPost⟩ : ∃ P : Prop, Hid (P = Near z) := ⟨_, hid rfl⟩
  rw [← hPost.out]
  obtain ⟨qa, qc, hq0, hqc, hqm⟩ := hi.slice
  unfold kbC
  rw [hq0] at hi ⊢
  unfold maxLen at hqm
  have b3 := three_below w (Obj.cells #[.int .i64 z.kind, .int .i64 z.cents, .int .i64 z.seq, .string z.swho, .int .i64 z.sseq, .int .i64 z.szone, .int .i64 z.shour, .bool z.sbuy, .int .i64 z.sqty, .int .i64 z.sprice, .string z.bwho, .int .i64 z.bseq, .int .i64 z.bzone, .bool z.bbuy, .int .i64 z.bprice, .slice qa z.Q.length qc, .int .i64 z.parent, .int .i64 z.group] 28) (Obj.cells #[.string z.swho, .int .i64 z.sseq, .int .i64 z.szone, .int .i64 z.shour, .bool z.sbuy, .int .i64 z.sqty, .int .i64 z.sprice] 23) (Obj.cells #[.string z.bwho, .int .i64 z.bseq, .int .i64 z.bzone, .bool z.bbuy, .int .i64 z.bprice, .slice qa z.Q.length qc, .int .i64 z.parent, .int .i64 z.group] 26)
  have hi3 := hi.below b3
  have HI3 := hid hi3
  have HI := hid hi
  clear hi hi3
  go_enter Try.func13, Try.ntmps13
  by_cases c_sqty : 1000000 < z.sqty
  · have c_t : decide (1000000 < z.sqty) = true := by simpa using c_sqty
    go_wp2
    go_ret
    exact ⟨Or.inl rfl, b3⟩
  have d_sqty : decide (1000000 < z.sqty) = false := by simpa using c_sqty
  by_cases c_sqty2 : z.sqty < -1000000
  · have c_t : decide (z.sqty < -1000000) = true := by simpa using c_sqty2
    go_wp2
    go_ret
    exact ⟨Or.inl rfl, b3⟩
  have d_sqty2 : decide (z.sqty < -1000000) = false := by simpa using c_sqty2
  by_cases c_sp1 : 1000000 < z.sprice
  · have c_t : decide (1000000 < z.sprice) = true := by simpa using c_sp1
    go_wp2
    go_ret
    exact ⟨Or.inl rfl, b3⟩
  have d_sp1 : decide (1000000 < z.sprice) = false := by simpa using c_sp1
  by_cases c_sp2 : z.sprice < -1000000
  · have c_t : decide (z.sprice < -1000000) = true := by simpa using c_sp2
    go_wp2
    go_ret
    exact ⟨Or.inl rfl, b3⟩
  have d_sp2 : decide (z.sprice < -1000000) = false := by simpa using c_sp2
  by_cases c_bp1 : 1000000 < z.bprice
  · have c_t : decide (1000000 < z.bprice) = true := by simpa using c_bp1
    go_wp2
    go_ret
    exact ⟨Or.inl rfl, b3⟩
  have d_bp1 : decide (1000000 < z.bprice) = false := by simpa using c_bp1
  by_cases c_bp2 : z.bprice < -1000000
  · have c_t : decide (z.bprice < -1000000) = true := by simpa using c_bp2
    go_wp2
    go_ret
    exact ⟨Or.inl rfl, b3⟩
  have d_bp2 : decide (z.bprice < -1000000) = false := by simpa using c_bp2
  by_cases c_ln : (16 : Int) < (z.Q.length : Int)
  · have c_t : decide ((16 : Int) < (z.Q.length : Int)) = true := by simpa using c_ln
    go_wp2
    go_ret
    exact ⟨Or.inl rfl, b3⟩
  have d_ln : decide ((16 : Int) < (z.Q.length : Int)) = false := by simpa using c_ln
  have HNEAR := hid (fun (hq : ∀ x ∈ z.Q, -1000000 ≤ x ∧ x ≤ 1000000) => show Post by rw [hPost.out]; exact ⟨by omega, by omega, by omega, by omega, hq⟩)
  clear c_sqty c_sqty2 c_sp1 c_sp2 c_bp1 c_bp2 c_ln
  have hql : z.Q.length ≤ 9223372036854775807 := by omega
  go_wp2
  have e3 := heap_alloc_last ((w.alloc (Obj.cells #[.int .i64 z.kind, .int .i64 z.cents, .int .i64 z.seq, .string z.swho, .int .i64 z.sseq, .int .i64 z.szone, .int .i64 z.shour, .bool z.sbuy, .int .i64 z.sqty, .int .i64 z.sprice, .string z.bwho, .int .i64 z.bseq, .int .i64 z.bzone, .bool z.bbuy, .int .i64 z.bprice, .slice qa z.Q.length qc, .int .i64 z.parent, .int .i64 z.group] 28)).alloc (Obj.cells #[.string z.swho, .int .i64 z.sseq, .int .i64 z.szone, .int .i64 z.shour, .bool z.sbuy, .int .i64 z.sqty, .int .i64 z.sprice] 23)) (Obj.cells #[.string z.bwho, .int .i64 z.bseq, .int .i64 z.bzone, .bool z.bbuy, .int .i64 z.bprice, .slice qa z.Q.length qc, .int .i64 z.parent, .int .i64 z.group] 26)
  have c5 := blk_cell e3 5 (.slice qa z.Q.length qc) rfl
  rw [show ((w.alloc (Obj.cells #[.int .i64 z.kind, .int .i64 z.cents, .int .i64 z.seq, .string z.swho, .int .i64 z.sseq, .int .i64 z.szone, .int .i64 z.shour, .bool z.sbuy, .int .i64 z.sqty, .int .i64 z.sprice, .string z.bwho, .int .i64 z.bseq, .int .i64 z.bzone, .bool z.bbuy, .int .i64 z.bprice, .slice qa z.Q.length qc, .int .i64 z.parent, .int .i64 z.group] 28)).alloc (Obj.cells #[.string z.swho, .int .i64 z.sseq, .int .i64 z.szone, .int .i64 z.shour, .bool z.sbuy, .int .i64 z.sqty, .int .i64 z.sprice] 23)).heap.size = w.heap.size + 1 + 1 by simp] at c5
  clear e3 d_sqty d_sqty2 d_sp1 d_sp2 d_bp1 d_bp2 d_ln
  generalize ((w.alloc (Obj.cells #[.int .i64 z.kind, .int .i64 z.cents, .int .i64 z.seq, .string z.swho, .int .i64 z.sseq, .int .i64 z.szone, .int .i64 z.shour, .bool z.sbuy, .int .i64 z.sqty, .int .i64 z.sprice, .string z.bwho, .int .i64 z.bseq, .int .i64 z.bzone, .bool z.bbuy, .int .i64 z.bprice, .slice qa z.Q.length qc, .int .i64 z.parent, .int .i64 z.group] 28)).alloc (Obj.cells #[.string z.swho, .int .i64 z.sseq, .int .i64 z.szone, .int .i64 z.shour, .bool z.sbuy, .int .i64 z.sqty, .int .i64 z.sprice] 23)).alloc (Obj.cells #[.string z.bwho, .int .i64 z.bseq, .int .i64 z.bzone, .bool z.bbuy, .int .i64 z.bprice, .slice qa z.Q.length qc, .int .i64 z.parent, .int .i64 z.group] 26) = W3 at *
  generalize w.heap.size + 1 + 1 = n3 at *
  go_loopw [5] (fun i wr => ∃ k : Nat, k ≤ z.Q.length ∧ i = .int .i64 (k : Int) ∧ Hid (∀ x ∈ z.Q.take k, -1000000 ≤ x ∧ x ≤ 1000000) ∧ wr = W3) (fun i _ => z.Q.length - (intOf i).toNat)
  case atStart => exact ⟨0, Nat.zero_le _, rfl, by simp [Hid], rfl⟩
  case round =>
    obtain ⟨k, hk, rfl, HALL, rfl⟩ := hrel
    by_cases hlt : k < z.Q.length
    · obtain ⟨b1, o1, d1, e1, l1, m1, f1⟩ := HI3.out.at k hlt
      simp only [Value.slice.injEq] at e1
      obtain ⟨rfl, _, rfl⟩ := e1
      have HSU := hid (fun (h : -1000000 ≤ z.Q[k] ∧ z.Q[k] ≤ 1000000) => show ∀ x ∈ z.Q.take (k + 1), -1000000 ≤ x ∧ x ≤ 1000000 from fun x hx => by
        rw [List.take_succ_eq_append_getElem hlt] at hx
        rcases List.mem_append.1 hx with hx | hx
        · exact HALL.out x hx
        · simp only [List.mem_singleton] at hx
          subst hx; exact h)
      generalize z.Q[k] = y at *
      by_cases y1 : 1000000 < y
      · have y1' : decide (1000000 < y) = true := by simpa using y1
        go_wp2
        go_ret
        exact ⟨Or.inl rfl, b3⟩
      by_cases y2 : y < -1000000
      · have y1' : decide (1000000 < y) = false := by simpa using y1
        have y2' : decide (y < -1000000) = true := by simpa using y2
        go_wp2
        go_ret
        exact ⟨Or.inl rfl, b3⟩
      · have y1' : decide (1000000 < y) = false := by simpa using y1
        have y2' : decide (y < -1000000) = false := by simpa using y2
        have HN := hid (HSU.out (by omega))
        clear HSU
        go_wp2
        go_roundw
        case rel => exact ⟨k + 1, by omega, by go_num, HN, by simp⟩
        case measure => simp [intOf]; omega
    · have hkl : k = z.Q.length := by omega
      have HF := hid (HNEAR.out (by have := HALL.out; rw [hkl, List.take_length] at this; exact this))
      clear hkl HNEAR
      go_wp2
      go_ret
      exact ⟨Or.inr ⟨rfl, HF.out⟩, b3⟩
end Go.Proofs.Ytbkobimbdiogfaa
