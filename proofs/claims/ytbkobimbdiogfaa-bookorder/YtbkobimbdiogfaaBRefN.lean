/- BookOrder: the document's May. -/
import Derived.Test.YtbkobimbdiogfaaBRefK
import Derived.Test.YtbkobimbdiogfaaBRefL
namespace Go.Proofs.Ytbkobimbdiogfaa
open Go.RowKit Go.MapKept
set_option linter.unusedVariables false
set_option maxRecDepth 100000
set_option linter.unusedSimpArgs false

theorem mayR_def (R : Rf) (z : Kb) : mayR R z = if z.kind < 1 ∨ 4 < z.kind then 1 else if 24 ≤ (R.length : Int) then 101 else if z.kind = 1 then lockE z.cents else if z.kind = 4 then canR R z.seq else ordR R z := rfl
set_option maxHeartbeats 6400000 in
theorem bkMay_bad {w : World} {bb : Nat} {who : ByteArray} {a : Option Addr} {cap : Nat} {R : Rf} (h : RB w bb who a cap R) (hb : ∀ k, k ≤ R.length → 0 ≤ lockR (R.take k) ∧ lockR (R.take k) ≤ 24000000000) (z : Kb) (hi : Ints w z.qv z.Q) (hk : z.kind < 1 ∨ 4 < z.kind) :
    Calls Try.prog 36 #[.pointer (some ⟨bb, 0, none⟩), .string who, .agg (kbC z)] w fun e w' => e = .returned (.int .i64 (mayR R z)) ∧ Below w.heap.size w w' := by
  obtain ⟨qa, qc, hq0, hqc, hqm⟩ := hi.slice
  have hkb : kbC z = #[.int .i64 z.kind, .int .i64 z.cents, .int .i64 z.seq, .string z.swho, .int .i64 z.sseq, .int .i64 z.szone, .int .i64 z.shour, .bool z.sbuy, .int .i64 z.sqty, .int .i64 z.sprice, .string z.bwho, .int .i64 z.bseq, .int .i64 z.bzone, .bool z.bbuy, .int .i64 z.bprice, .slice qa z.Q.length qc, .int .i64 z.parent, .int .i64 z.group] := by unfold kbC; rw [hq0]
  have HKB := hid hkb
  rw [hkb]
  clear hkb
  have hl := h.len
  have hc := h.cap_
  have HH := hid h
  have HI := hid hi
  have HM := hid (mayR_def R z)
  clear h hi hq0
  have b1 : Below w.heap.size w (w.alloc (Obj.cells #[.int .i64 z.kind, .int .i64 z.cents, .int .i64 z.seq, .string z.swho, .int .i64 z.sseq, .int .i64 z.szone, .int .i64 z.shour, .bool z.sbuy, .int .i64 z.sqty, .int .i64 z.sprice, .string z.bwho, .int .i64 z.bseq, .int .i64 z.bzone, .bool z.bbuy, .int .i64 z.bprice, .slice qa z.Q.length qc, .int .i64 z.parent, .int .i64 z.group] 31)) := (Below.refl w.heap.size w).alloc (Nat.le_refl _) _
  have e1 : (w.alloc (Obj.cells #[.int .i64 z.kind, .int .i64 z.cents, .int .i64 z.seq, .string z.swho, .int .i64 z.sseq, .int .i64 z.szone, .int .i64 z.shour, .bool z.sbuy, .int .i64 z.sqty, .int .i64 z.sprice, .string z.bwho, .int .i64 z.bseq, .int .i64 z.bzone, .bool z.bbuy, .int .i64 z.bprice, .slice qa z.Q.length qc, .int .i64 z.parent, .int .i64 z.group] 31)).heap[w.heap.size]? = _ := heap_alloc_last w _
  have a0 := blk_cell e1 0 (.int .i64 z.kind) rfl
  have a1 := blk_cell e1 1 (.int .i64 z.cents) rfl
  have a2 := blk_cell e1 2 (.int .i64 z.seq) rfl
  have a3 := blk_cell e1 3 (.string z.swho) rfl
  have a4 := blk_cell e1 4 (.int .i64 z.sseq) rfl
  have a5 := blk_cell e1 5 (.int .i64 z.szone) rfl
  have a6 := blk_cell e1 6 (.int .i64 z.shour) rfl
  have a7 := blk_cell e1 7 (.bool z.sbuy) rfl
  have a8 := blk_cell e1 8 (.int .i64 z.sqty) rfl
  have a9 := blk_cell e1 9 (.int .i64 z.sprice) rfl
  have a10 := blk_cell e1 10 (.string z.bwho) rfl
  have a11 := blk_cell e1 11 (.int .i64 z.bseq) rfl
  have a12 := blk_cell e1 12 (.int .i64 z.bzone) rfl
  have a13 := blk_cell e1 13 (.bool z.bbuy) rfl
  have a14 := blk_cell e1 14 (.int .i64 z.bprice) rfl
  have a15 := blk_cell e1 15 (.slice qa z.Q.length qc) rfl
  have a16 := blk_cell e1 16 (.int .i64 z.parent) rfl
  have a17 := blk_cell e1 17 (.int .i64 z.group) rfl
  have HB1 := hid b1
  clear e1 b1
  go_enter Try.func36, Try.ntmps36
  have HA := hid (show mayR R z = 1 by rw [HM.out, if_pos hk])
  generalize z.kind = K at *
  rcases hk with hk | hk
  · have h1 : decide (K < 1) = true := by simpa using hk
    go_wp2
    go_ret
    exact ⟨by rw [HA.out]; rfl, HB1.out⟩
  · have h1 : decide (K < 1) = false := by simp; omega
    have h4 : decide (4 < K) = true := by simpa using hk
    go_wp2
    go_ret
    exact ⟨by rw [HA.out]; rfl, HB1.out⟩
set_option maxHeartbeats 6400000 in
theorem bkMay_lock {w : World} {bb : Nat} {who : ByteArray} {a : Option Addr} {cap : Nat} {R : Rf} (h : RB w bb who a cap R) (hb : ∀ k, k ≤ R.length → 0 ≤ lockR (R.take k) ∧ lockR (R.take k) ≤ 24000000000) (z : Kb) (hi : Ints w z.qv z.Q) (hk : z.kind = 1) :
    Calls Try.prog 36 #[.pointer (some ⟨bb, 0, none⟩), .string who, .agg (kbC z)] w fun e w' => e = .returned (.int .i64 (mayR R z)) ∧ Below w.heap.size w w' := by
  obtain ⟨qa, qc, hq0, hqc, hqm⟩ := hi.slice
  have hkb : kbC z = #[.int .i64 1, .int .i64 z.cents, .int .i64 z.seq, .string z.swho, .int .i64 z.sseq, .int .i64 z.szone, .int .i64 z.shour, .bool z.sbuy, .int .i64 z.sqty, .int .i64 z.sprice, .string z.bwho, .int .i64 z.bseq, .int .i64 z.bzone, .bool z.bbuy, .int .i64 z.bprice, .slice qa z.Q.length qc, .int .i64 z.parent, .int .i64 z.group] := by unfold kbC; rw [hq0, hk]
  have HKB := hid hkb
  rw [hkb]
  clear hkb
  have hl := h.len
  have hc := h.cap_
  have HH := hid h
  have HI := hid hi
  have HM := hid (mayR_def R z)
  rw [if_neg (by omega)] at HM
  clear h hi hq0
  have b1 : Below w.heap.size w (w.alloc (Obj.cells #[.int .i64 1, .int .i64 z.cents, .int .i64 z.seq, .string z.swho, .int .i64 z.sseq, .int .i64 z.szone, .int .i64 z.shour, .bool z.sbuy, .int .i64 z.sqty, .int .i64 z.sprice, .string z.bwho, .int .i64 z.bseq, .int .i64 z.bzone, .bool z.bbuy, .int .i64 z.bprice, .slice qa z.Q.length qc, .int .i64 z.parent, .int .i64 z.group] 31)) := (Below.refl w.heap.size w).alloc (Nat.le_refl _) _
  have e1 : (w.alloc (Obj.cells #[.int .i64 1, .int .i64 z.cents, .int .i64 z.seq, .string z.swho, .int .i64 z.sseq, .int .i64 z.szone, .int .i64 z.shour, .bool z.sbuy, .int .i64 z.sqty, .int .i64 z.sprice, .string z.bwho, .int .i64 z.bseq, .int .i64 z.bzone, .bool z.bbuy, .int .i64 z.bprice, .slice qa z.Q.length qc, .int .i64 z.parent, .int .i64 z.group] 31)).heap[w.heap.size]? = _ := heap_alloc_last w _
  have a0 := blk_cell e1 0 (.int .i64 1) rfl
  have a1 := blk_cell e1 1 (.int .i64 z.cents) rfl
  have a2 := blk_cell e1 2 (.int .i64 z.seq) rfl
  have a3 := blk_cell e1 3 (.string z.swho) rfl
  have a4 := blk_cell e1 4 (.int .i64 z.sseq) rfl
  have a5 := blk_cell e1 5 (.int .i64 z.szone) rfl
  have a6 := blk_cell e1 6 (.int .i64 z.shour) rfl
  have a7 := blk_cell e1 7 (.bool z.sbuy) rfl
  have a8 := blk_cell e1 8 (.int .i64 z.sqty) rfl
  have a9 := blk_cell e1 9 (.int .i64 z.sprice) rfl
  have a10 := blk_cell e1 10 (.string z.bwho) rfl
  have a11 := blk_cell e1 11 (.int .i64 z.bseq) rfl
  have a12 := blk_cell e1 12 (.int .i64 z.bzone) rfl
  have a13 := blk_cell e1 13 (.bool z.bbuy) rfl
  have a14 := blk_cell e1 14 (.int .i64 z.bprice) rfl
  have a15 := blk_cell e1 15 (.slice qa z.Q.length qc) rfl
  have a16 := blk_cell e1 16 (.int .i64 z.parent) rfl
  have a17 := blk_cell e1 17 (.int .i64 z.group) rfl
  have HB1 := hid b1
  clear e1 b1
  go_enter Try.func36, Try.ntmps36
  go_wp2_with fail
  refine (bkAsks_any (HH.out.below HB1.out)).mono ?_
  rintro e X ⟨rfl, hX⟩
  subst hX
  by_cases hq : 24 ≤ (R.length : Int)
  · have hq' : decide ((24 : Int) ≤ (R.length : Int)) = true := by simpa using hq
    have HA := hid (show mayR R z = 101 by rw [HM.out, if_pos hq])
    go_wp2
    go_ret
    exact ⟨by rw [HA.out]; rfl, HB1.out⟩
  have hq' : decide ((24 : Int) ≤ (R.length : Int)) = false := by simpa using hq
  rw [if_neg hq] at HM
  rw [if_pos hk] at HM
  have HA := hid (show mayR R z = if z.cents < 1 ∨ 1000000000 < z.cents then 1 else 0 by rw [HM.out]; rfl)
  clear HM
  by_cases h1 : z.cents < 1
  · have h1' : decide (z.cents < 1) = true := by simpa using h1
    have HE := hid (show mayR R z = 1 by rw [HA.out, if_pos (Or.inl h1)])
    go_wp2
    go_ret
    exact ⟨by rw [HE.out]; rfl, HB1.out⟩
  have h1' : decide (z.cents < 1) = false := by simpa using h1
  by_cases h2 : 1000000000 < z.cents
  · have h2' : decide (1000000000 < z.cents) = true := by simpa using h2
    have HE := hid (show mayR R z = 1 by rw [HA.out, if_pos (Or.inr h2)])
    go_wp2
    go_ret
    exact ⟨by rw [HE.out]; rfl, HB1.out⟩
  have h2' : decide (1000000000 < z.cents) = false := by simpa using h2
  have HE := hid (show mayR R z = 0 by rw [HA.out, if_neg (by omega)])
  go_wp2
  go_ret
  exact ⟨by rw [HE.out]; rfl, HB1.out⟩
set_option maxHeartbeats 6400000 in
theorem bkMay_cancel {w : World} {bb : Nat} {who : ByteArray} {a : Option Addr} {cap : Nat} {R : Rf} (h : RB w bb who a cap R) (hb : ∀ k, k ≤ R.length → 0 ≤ lockR (R.take k) ∧ lockR (R.take k) ≤ 24000000000) (z : Kb) (hi : Ints w z.qv z.Q) (hk : z.kind = 4) :
    Calls Try.prog 36 #[.pointer (some ⟨bb, 0, none⟩), .string who, .agg (kbC z)] w fun e w' => e = .returned (.int .i64 (mayR R z)) ∧ Below w.heap.size w w' := by
  obtain ⟨qa, qc, hq0, hqc, hqm⟩ := hi.slice
  have hkb : kbC z = #[.int .i64 4, .int .i64 z.cents, .int .i64 z.seq, .string z.swho, .int .i64 z.sseq, .int .i64 z.szone, .int .i64 z.shour, .bool z.sbuy, .int .i64 z.sqty, .int .i64 z.sprice, .string z.bwho, .int .i64 z.bseq, .int .i64 z.bzone, .bool z.bbuy, .int .i64 z.bprice, .slice qa z.Q.length qc, .int .i64 z.parent, .int .i64 z.group] := by unfold kbC; rw [hq0, hk]
  have HKB := hid hkb
  rw [hkb]
  clear hkb
  have hl := h.len
  have hc := h.cap_
  have HH := hid h
  have HI := hid hi
  have HM := hid (mayR_def R z)
  rw [if_neg (by omega)] at HM
  clear h hi hq0
  have b1 : Below w.heap.size w (w.alloc (Obj.cells #[.int .i64 4, .int .i64 z.cents, .int .i64 z.seq, .string z.swho, .int .i64 z.sseq, .int .i64 z.szone, .int .i64 z.shour, .bool z.sbuy, .int .i64 z.sqty, .int .i64 z.sprice, .string z.bwho, .int .i64 z.bseq, .int .i64 z.bzone, .bool z.bbuy, .int .i64 z.bprice, .slice qa z.Q.length qc, .int .i64 z.parent, .int .i64 z.group] 31)) := (Below.refl w.heap.size w).alloc (Nat.le_refl _) _
  have e1 : (w.alloc (Obj.cells #[.int .i64 4, .int .i64 z.cents, .int .i64 z.seq, .string z.swho, .int .i64 z.sseq, .int .i64 z.szone, .int .i64 z.shour, .bool z.sbuy, .int .i64 z.sqty, .int .i64 z.sprice, .string z.bwho, .int .i64 z.bseq, .int .i64 z.bzone, .bool z.bbuy, .int .i64 z.bprice, .slice qa z.Q.length qc, .int .i64 z.parent, .int .i64 z.group] 31)).heap[w.heap.size]? = _ := heap_alloc_last w _
  have a0 := blk_cell e1 0 (.int .i64 4) rfl
  have a1 := blk_cell e1 1 (.int .i64 z.cents) rfl
  have a2 := blk_cell e1 2 (.int .i64 z.seq) rfl
  have a3 := blk_cell e1 3 (.string z.swho) rfl
  have a4 := blk_cell e1 4 (.int .i64 z.sseq) rfl
  have a5 := blk_cell e1 5 (.int .i64 z.szone) rfl
  have a6 := blk_cell e1 6 (.int .i64 z.shour) rfl
  have a7 := blk_cell e1 7 (.bool z.sbuy) rfl
  have a8 := blk_cell e1 8 (.int .i64 z.sqty) rfl
  have a9 := blk_cell e1 9 (.int .i64 z.sprice) rfl
  have a10 := blk_cell e1 10 (.string z.bwho) rfl
  have a11 := blk_cell e1 11 (.int .i64 z.bseq) rfl
  have a12 := blk_cell e1 12 (.int .i64 z.bzone) rfl
  have a13 := blk_cell e1 13 (.bool z.bbuy) rfl
  have a14 := blk_cell e1 14 (.int .i64 z.bprice) rfl
  have a15 := blk_cell e1 15 (.slice qa z.Q.length qc) rfl
  have a16 := blk_cell e1 16 (.int .i64 z.parent) rfl
  have a17 := blk_cell e1 17 (.int .i64 z.group) rfl
  have HB1 := hid b1
  clear e1 b1
  go_enter Try.func36, Try.ntmps36
  go_wp2_with fail
  refine (bkAsks_any (HH.out.below HB1.out)).mono ?_
  rintro e X ⟨rfl, hX⟩
  subst hX
  by_cases hq : 24 ≤ (R.length : Int)
  · have hq' : decide ((24 : Int) ≤ (R.length : Int)) = true := by simpa using hq
    have HA := hid (show mayR R z = 101 by rw [HM.out, if_pos hq])
    go_wp2
    go_ret
    exact ⟨by rw [HA.out]; rfl, HB1.out⟩
  have hq' : decide ((24 : Int) ≤ (R.length : Int)) = false := by simpa using hq
  rw [if_neg hq] at HM
  rw [if_neg (by omega), if_pos hk] at HM
  go_wp2_with fail
  refine (bkcancel_any (HH.out.below HB1.out) z.seq).mono ?_
  rintro e X ⟨rfl, bX⟩
  have BX := hid (chain2 HB1.out bX)
  clear bX
  rw [← HM.out]
  go_wp2
  go_ret
  exact ⟨rfl, BX.out⟩
set_option maxHeartbeats 6400000 in
theorem bkMay_step {w : World} {bb : Nat} {who : ByteArray} {a : Option Addr} {cap : Nat} {R : Rf} (h : RB w bb who a cap R) (hb : ∀ k, k ≤ R.length → 0 ≤ lockR (R.take k) ∧ lockR (R.take k) ≤ 24000000000) (z : Kb) (hi : Ints w z.qv z.Q) (hk : z.kind = 2) :
    Calls Try.prog 36 #[.pointer (some ⟨bb, 0, none⟩), .string who, .agg (kbC z)] w fun e w' => e = .returned (.int .i64 (mayR R z)) ∧ Below w.heap.size w w' := by
  obtain ⟨qa, qc, hq0, hqc, hqm⟩ := hi.slice
  have hkb : kbC z = #[.int .i64 2, .int .i64 z.cents, .int .i64 z.seq, .string z.swho, .int .i64 z.sseq, .int .i64 z.szone, .int .i64 z.shour, .bool z.sbuy, .int .i64 z.sqty, .int .i64 z.sprice, .string z.bwho, .int .i64 z.bseq, .int .i64 z.bzone, .bool z.bbuy, .int .i64 z.bprice, .slice qa z.Q.length qc, .int .i64 z.parent, .int .i64 z.group] := by unfold kbC; rw [hq0, hk]
  have HKB := hid hkb
  rw [hkb]
  clear hkb
  have hl := h.len
  have hc := h.cap_
  have HH := hid h
  have HI := hid hi
  have HM := hid (mayR_def R z)
  rw [if_neg (by omega)] at HM
  clear h hi hq0
  have b1 : Below w.heap.size w (w.alloc (Obj.cells #[.int .i64 2, .int .i64 z.cents, .int .i64 z.seq, .string z.swho, .int .i64 z.sseq, .int .i64 z.szone, .int .i64 z.shour, .bool z.sbuy, .int .i64 z.sqty, .int .i64 z.sprice, .string z.bwho, .int .i64 z.bseq, .int .i64 z.bzone, .bool z.bbuy, .int .i64 z.bprice, .slice qa z.Q.length qc, .int .i64 z.parent, .int .i64 z.group] 31)) := (Below.refl w.heap.size w).alloc (Nat.le_refl _) _
  have e1 : (w.alloc (Obj.cells #[.int .i64 2, .int .i64 z.cents, .int .i64 z.seq, .string z.swho, .int .i64 z.sseq, .int .i64 z.szone, .int .i64 z.shour, .bool z.sbuy, .int .i64 z.sqty, .int .i64 z.sprice, .string z.bwho, .int .i64 z.bseq, .int .i64 z.bzone, .bool z.bbuy, .int .i64 z.bprice, .slice qa z.Q.length qc, .int .i64 z.parent, .int .i64 z.group] 31)).heap[w.heap.size]? = _ := heap_alloc_last w _
  have a0 := blk_cell e1 0 (.int .i64 2) rfl
  have a1 := blk_cell e1 1 (.int .i64 z.cents) rfl
  have a2 := blk_cell e1 2 (.int .i64 z.seq) rfl
  have a3 := blk_cell e1 3 (.string z.swho) rfl
  have a4 := blk_cell e1 4 (.int .i64 z.sseq) rfl
  have a5 := blk_cell e1 5 (.int .i64 z.szone) rfl
  have a6 := blk_cell e1 6 (.int .i64 z.shour) rfl
  have a7 := blk_cell e1 7 (.bool z.sbuy) rfl
  have a8 := blk_cell e1 8 (.int .i64 z.sqty) rfl
  have a9 := blk_cell e1 9 (.int .i64 z.sprice) rfl
  have a10 := blk_cell e1 10 (.string z.bwho) rfl
  have a11 := blk_cell e1 11 (.int .i64 z.bseq) rfl
  have a12 := blk_cell e1 12 (.int .i64 z.bzone) rfl
  have a13 := blk_cell e1 13 (.bool z.bbuy) rfl
  have a14 := blk_cell e1 14 (.int .i64 z.bprice) rfl
  have a15 := blk_cell e1 15 (.slice qa z.Q.length qc) rfl
  have a16 := blk_cell e1 16 (.int .i64 z.parent) rfl
  have a17 := blk_cell e1 17 (.int .i64 z.group) rfl
  have HB1 := hid b1
  clear e1 b1
  go_enter Try.func36, Try.ntmps36
  go_wp2_with fail
  refine (bkAsks_any (HH.out.below HB1.out)).mono ?_
  rintro e X ⟨rfl, hX⟩
  subst hX
  by_cases hq : 24 ≤ (R.length : Int)
  · have hq' : decide ((24 : Int) ≤ (R.length : Int)) = true := by simpa using hq
    have HA := hid (show mayR R z = 101 by rw [HM.out, if_pos hq])
    go_wp2
    go_ret
    exact ⟨by rw [HA.out]; rfl, HB1.out⟩
  have hq' : decide ((24 : Int) ≤ (R.length : Int)) = false := by simpa using hq
  rw [if_neg hq] at HM
  rw [if_neg (by omega), if_neg (by omega)] at HM
  have HC := hid (bkorder_step (HH.out.below HB1.out) hb z hk (HI.out.below HB1.out))
  rw [HKB.out] at HC
  go_wp2_with fail
  refine HC.out.mono ?_
  rintro e X ⟨rfl, bX⟩
  have BX := hid (chain2 HB1.out bX)
  clear bX HC
  rw [← HM.out]
  go_wp2
  go_ret
  exact ⟨rfl, BX.out⟩
set_option maxHeartbeats 6400000 in
theorem bkMay_block {w : World} {bb : Nat} {who : ByteArray} {a : Option Addr} {cap : Nat} {R : Rf} (h : RB w bb who a cap R) (hb : ∀ k, k ≤ R.length → 0 ≤ lockR (R.take k) ∧ lockR (R.take k) ≤ 24000000000) (z : Kb) (hi : Ints w z.qv z.Q) (hk : z.kind = 3) :
    Calls Try.prog 36 #[.pointer (some ⟨bb, 0, none⟩), .string who, .agg (kbC z)] w fun e w' => e = .returned (.int .i64 (mayR R z)) ∧ Below w.heap.size w w' := by
  obtain ⟨qa, qc, hq0, hqc, hqm⟩ := hi.slice
  have hkb : kbC z = #[.int .i64 3, .int .i64 z.cents, .int .i64 z.seq, .string z.swho, .int .i64 z.sseq, .int .i64 z.szone, .int .i64 z.shour, .bool z.sbuy, .int .i64 z.sqty, .int .i64 z.sprice, .string z.bwho, .int .i64 z.bseq, .int .i64 z.bzone, .bool z.bbuy, .int .i64 z.bprice, .slice qa z.Q.length qc, .int .i64 z.parent, .int .i64 z.group] := by unfold kbC; rw [hq0, hk]
  have HKB := hid hkb
  rw [hkb]
  clear hkb
  have hl := h.len
  have hc := h.cap_
  have HH := hid h
  have HI := hid hi
  have HM := hid (mayR_def R z)
  rw [if_neg (by omega)] at HM
  clear h hi hq0
  have b1 : Below w.heap.size w (w.alloc (Obj.cells #[.int .i64 3, .int .i64 z.cents, .int .i64 z.seq, .string z.swho, .int .i64 z.sseq, .int .i64 z.szone, .int .i64 z.shour, .bool z.sbuy, .int .i64 z.sqty, .int .i64 z.sprice, .string z.bwho, .int .i64 z.bseq, .int .i64 z.bzone, .bool z.bbuy, .int .i64 z.bprice, .slice qa z.Q.length qc, .int .i64 z.parent, .int .i64 z.group] 31)) := (Below.refl w.heap.size w).alloc (Nat.le_refl _) _
  have e1 : (w.alloc (Obj.cells #[.int .i64 3, .int .i64 z.cents, .int .i64 z.seq, .string z.swho, .int .i64 z.sseq, .int .i64 z.szone, .int .i64 z.shour, .bool z.sbuy, .int .i64 z.sqty, .int .i64 z.sprice, .string z.bwho, .int .i64 z.bseq, .int .i64 z.bzone, .bool z.bbuy, .int .i64 z.bprice, .slice qa z.Q.length qc, .int .i64 z.parent, .int .i64 z.group] 31)).heap[w.heap.size]? = _ := heap_alloc_last w _
  have a0 := blk_cell e1 0 (.int .i64 3) rfl
  have a1 := blk_cell e1 1 (.int .i64 z.cents) rfl
  have a2 := blk_cell e1 2 (.int .i64 z.seq) rfl
  have a3 := blk_cell e1 3 (.string z.swho) rfl
  have a4 := blk_cell e1 4 (.int .i64 z.sseq) rfl
  have a5 := blk_cell e1 5 (.int .i64 z.szone) rfl
  have a6 := blk_cell e1 6 (.int .i64 z.shour) rfl
  have a7 := blk_cell e1 7 (.bool z.sbuy) rfl
  have a8 := blk_cell e1 8 (.int .i64 z.sqty) rfl
  have a9 := blk_cell e1 9 (.int .i64 z.sprice) rfl
  have a10 := blk_cell e1 10 (.string z.bwho) rfl
  have a11 := blk_cell e1 11 (.int .i64 z.bseq) rfl
  have a12 := blk_cell e1 12 (.int .i64 z.bzone) rfl
  have a13 := blk_cell e1 13 (.bool z.bbuy) rfl
  have a14 := blk_cell e1 14 (.int .i64 z.bprice) rfl
  have a15 := blk_cell e1 15 (.slice qa z.Q.length qc) rfl
  have a16 := blk_cell e1 16 (.int .i64 z.parent) rfl
  have a17 := blk_cell e1 17 (.int .i64 z.group) rfl
  have HB1 := hid b1
  clear e1 b1
  go_enter Try.func36, Try.ntmps36
  go_wp2_with fail
  refine (bkAsks_any (HH.out.below HB1.out)).mono ?_
  rintro e X ⟨rfl, hX⟩
  subst hX
  by_cases hq : 24 ≤ (R.length : Int)
  · have hq' : decide ((24 : Int) ≤ (R.length : Int)) = true := by simpa using hq
    have HA := hid (show mayR R z = 101 by rw [HM.out, if_pos hq])
    go_wp2
    go_ret
    exact ⟨by rw [HA.out]; rfl, HB1.out⟩
  have hq' : decide ((24 : Int) ≤ (R.length : Int)) = false := by simpa using hq
  rw [if_neg hq] at HM
  rw [if_neg (by omega), if_neg (by omega)] at HM
  have HC := hid (bkorder_block (HH.out.below HB1.out) hb z hk (HI.out.below HB1.out))
  rw [HKB.out] at HC
  go_wp2_with fail
  refine HC.out.mono ?_
  rintro e X ⟨rfl, bX⟩
  have BX := hid (chain2 HB1.out bX)
  clear bX HC
  rw [← HM.out]
  go_wp2
  go_ret
  exact ⟨rfl, BX.out⟩
theorem bkMay_any {w : World} {bb : Nat} {who : ByteArray} {a : Option Addr} {cap : Nat} {R : Rf} (h : RB w bb who a cap R) (hb : ∀ k, k ≤ R.length → 0 ≤ lockR (R.take k) ∧ lockR (R.take k) ≤ 24000000000) (z : Kb) (hi : Ints w z.qv z.Q) :
    Calls Try.prog 36 #[.pointer (some ⟨bb, 0, none⟩), .string who, .agg (kbC z)] w fun e w' => e = .returned (.int .i64 (mayR R z)) ∧ Below w.heap.size w w' := by
  by_cases h0 : z.kind < 1 ∨ 4 < z.kind
  · exact bkMay_bad h hb z hi h0
  by_cases h1 : z.kind = 1
  · exact bkMay_lock h hb z hi h1
  by_cases h2 : z.kind = 2
  · exact bkMay_step h hb z hi h2
  by_cases h3 : z.kind = 3
  · exact bkMay_block h hb z hi h3
  exact bkMay_cancel h hb z hi (by omega)
end Go.Proofs.Ytbkobimbdiogfaa
