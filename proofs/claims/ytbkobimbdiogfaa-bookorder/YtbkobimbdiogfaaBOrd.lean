/- book: the small functions over an Ask; an Ask as who's, in new memory. -/
import Derived.Test.YtbkobimbdiogfaaBCalls
import Derived.Test.YtbkobimbdiogfaaBSteps
import Derived.Test.YtbkobimbdiogfaaKOwe2
namespace Go.Proofs.Ytbkobimbdiogfaa
open Go.RowKit Go.MapKept
set_option linter.unusedVariables false
set_option maxRecDepth 100000
set_option linter.unusedSimpArgs false

/-- The order of an Ask. -/
def kbO (z : Kb) : Od := if z.kind = 2 then .step z.sseq z.szone z.shour z.sbuy z.sqty z.sprice else .block z.bseq z.bzone z.bbuy z.bprice z.Q z.parent z.group
theorem kbO_step {z : Kb} (h : z.kind = 2) : kbO z = .step z.sseq z.szone z.shour z.sbuy z.sqty z.sprice := if_pos h
theorem kbO_block {z : Kb} (h : z.kind = 3) : kbO z = .block z.bseq z.bzone z.bbuy z.bprice z.Q z.parent z.group := if_neg (by omega)
def odK (who : ByteArray) (qv : Value) : Od → Kb
  | .step s z h b q p => ⟨2, 0, 0, who, s, z, h, b, q, p, ⟨#[]⟩, 0, 0, false, 0, .slice none 0 0, [], 0, 0⟩
  | .block s z b p Q pa g => ⟨3, 0, 0, ⟨#[]⟩, 0, 0, 0, false, 0, 0, who, s, z, b, p, qv, Q, pa, g⟩
theorem odK_C (who : ByteArray) (qv : Value) (o : Od) : kbC (odK who qv o) = odC who qv o := by cases o <;> rfl
theorem odK_O (who : ByteArray) (qv : Value) (o : Od) : kbO (odK who qv o) = o := by cases o <;> rfl
theorem odK_kind (who : ByteArray) (qv : Value) (o : Od) : (odK who qv o).kind = o.kind := by cases o <;> rfl
/-- What an order may cost at most. -/
def Od.cost : Od → Int
  | .step _ _ _ b q p => dear b p q
  | .block _ _ b p Q _ _ => dear b p (sumW Q)
def seqK (z : Kb) : Int := if z.kind = 2 then z.sseq else z.bseq
def parK (z : Kb) : Int := if z.kind = 3 then z.parent else 0
theorem seqK_O (z : Kb) : (kbO z).seq = seqK z := by unfold kbO seqK; split <;> rfl
theorem parK_O {z : Kb} (h : z.kind = 2 ∨ z.kind = 3) : (kbO z).parent = parK z := by
  rcases h with h | h
  · rw [kbO_step h]; unfold parK; rw [if_neg (by omega)]; rfl
  · rw [kbO_block h]; unfold parK; rw [if_pos h]; rfl
theorem kind_O {z : Kb} (h : z.kind = 2 ∨ z.kind = 3) : (kbO z).kind = z.kind := by
  rcases h with h | h
  · rw [kbO_step h, h]; rfl
  · rw [kbO_block h, h]; rfl
set_option maxHeartbeats 1600000 in
theorem seqOf_any (z : Kb) (w : World) : Calls Try.prog 32 #[.agg (kbC z)] w fun e w' => e = .returned (.int .i64 (seqK z)) ∧ Below w.heap.size w w' := by
  unfold kbC
  by_cases h : z.kind = 2
  · have he : seqK z = z.sseq := if_pos h
    rw [he, h]
    go_enter Try.func32, Try.ntmps32
    go_wp2
    go_ret
    exact ⟨rfl, (Below.refl w.heap.size w).alloc (Nat.le_refl _) _⟩
  · have he : seqK z = z.bseq := if_neg h
    have h' : (z.kind == 2) = false := by simpa using h
    rw [he]
    generalize z.kind = K at *
    go_enter Try.func32, Try.ntmps32
    go_wp2
    go_ret
    exact ⟨rfl, (Below.refl w.heap.size w).alloc (Nat.le_refl _) _⟩
set_option maxHeartbeats 1600000 in
theorem parentOf_any (z : Kb) (w : World) : Calls Try.prog 65 #[.agg (kbC z)] w fun e w' => e = .returned (.int .i64 (parK z)) ∧ Below w.heap.size w w' := by
  unfold kbC
  by_cases h : z.kind = 3
  · have he : parK z = z.parent := if_pos h
    rw [he, h]
    go_enter Try.func65, Try.ntmps65
    go_wp2
    go_ret
    exact ⟨rfl, (Below.refl w.heap.size w).alloc (Nat.le_refl _) _⟩
  · have he : parK z = 0 := if_neg h
    have h' : (z.kind == 3) = false := by simpa using h
    rw [he]
    generalize z.kind = K at *
    go_enter Try.func65, Try.ntmps65
    go_wp2
    go_ret
    exact ⟨rfl, (Below.refl w.heap.size w).alloc (Nat.le_refl _) _⟩
def mostK (k : Int) : Int := if k = 2 then 8 else 3
set_option maxHeartbeats 800000 in
theorem mostOf_any (k : Int) (w : World) : Calls Try.prog 68 #[.int .i64 k] w fun e w' => e = .returned (.int .i64 (mostK k)) ∧ w' = w := by
  by_cases h : k = 2
  · subst h
    go_enter Try.func68, Try.ntmps68
    go_wp2
    go_ret
    exact ⟨rfl, rfl⟩
  · have he : mostK k = 3 := if_neg h
    have h' : (k == 2) = false := by simpa using h
    rw [he]
    go_enter Try.func68, Try.ntmps68
    go_wp2
    go_ret
    exact ⟨rfl, rfl⟩
theorem owesK_any (z : Kb) (w : World) (hk : z.kind = 2 ∨ z.kind = 3) (hi : Ints w z.qv z.Q) : Calls Try.prog 9 #[.agg (kbC z)] w fun e w' => e = .returned (.int .i64 (kbO z).cost) ∧ Below w.heap.size w w' := by
  unfold kbC
  rcases hk with h | h
  · rw [kbO_step h, h]
    exact owes_step w _ _ _ _ _ _ _ _ _ _ _ _ _ _ z.sbuy z.sqty z.sprice
  · rw [kbO_block h, h]
    exact owes_block w _ _ _ _ _ _ _ _ _ _ _ _ _ _ z.qv z.bbuy z.bprice z.Q hi
/-- A slice of numbers, copied. -/
theorem clone_any (w : World) (v : Value) (L : List Int) (h : Ints w v L) (hl : L.length ≤ 1000000000) :
    Calls Try.prog 51 #[v] w fun e w' => ∃ a n c, e = .returned (.slice a n c) ∧ Ints w' (.slice a n c) L ∧ (L = [] ∨ ∀ b off n' c', Value.slice a n c = .slice (some ⟨b, off, none⟩) n' c' → w.heap.size ≤ b ∧ b < w'.heap.size) ∧ Below w.heap.size w w' := by
  obtain ⟨a, c, rfl, hlc, hcm⟩ := h.slice
  cases a with
  | none =>
    have h0 : L = [] := by
      obtain ⟨a', c', h1, _, _, h4⟩ := h
      rcases h4 with h4 | ⟨b, off, h4, _⟩
      · have : (intV L).length = 0 := by rw [h4]; rfl
        rw [intV_len] at this
        exact List.eq_nil_of_length_eq_zero this
      · rw [h4] at h1; cases h1
    subst h0
    refine (Try.slices_Clone_int_nil _ c w).mono ?_
    rintro e w' ⟨rfl, rfl⟩
    exact ⟨none, 0, 0, rfl, Row1.nil _, Or.inl rfl, Below.refl _ _⟩
  | some x =>
    by_cases h0 : L = []
    · subst h0
      refine (Try.slices_Clone_int_zero x c w).mono ?_
      rintro e w' ⟨v', rfl, ho, _, hb⟩
      obtain ⟨sa, sc, rfl⟩ := own_slice ho
      exact ⟨sa, 0, sc, rfl, Row1.of_own (L := intV []) ho, Or.inl rfl, hb⟩
    · obtain ⟨b, off, sp⟩ := x
      obtain ⟨b', off', c', e1, _⟩ := h.at 0 (by cases L with | nil => exact absurd rfl h0 | cons => simp)
      simp only [Value.slice.injEq, Option.some.injEq, Addr.mk.injEq] at e1
      obtain ⟨⟨rfl, rfl, rfl⟩, _, rfl⟩ := e1
      refine (Try.slices_Clone_int b off L.length c L w (Nat.le_refl _) (by omega) (fun j hj => by
        obtain ⟨b', off', c', e1, _, _, e2⟩ := h.at j hj
        simp only [Value.slice.injEq, Option.some.injEq, Addr.mk.injEq] at e1
        obtain ⟨⟨rfl, rfl, _⟩, _, rfl⟩ := e1
        rw [e2]; simp [hj])).mono ?_
      rintro e w' ⟨v', rfl, ho, _, hb⟩
      rw [List.take_length] at ho
      obtain ⟨sa, sc, rfl⟩ := own_slice ho
      have hlt := ho.lt
      refine ⟨sa, _, sc, rfl, ?_, Or.inr fun b off n' c' e => ?_, hb⟩
      · have := Row1.of_own (L := intV L) (by rw [intV_len]; exact ho)
        exact this
      · simp only [Value.slice.injEq] at e
        have := hlt b (by rw [e.1]; rfl)
        exact this
theorem two_blocks (w : World) (A B : Obj) : ((w.alloc A).alloc B).heap[w.heap.size]? = some A ∧ ((w.alloc A).alloc B).heap[w.heap.size + 1]? = some B ∧ Below w.heap.size w ((w.alloc A).alloc B) :=
  ⟨(heap_alloc_old _ _ (by simp)).trans (heap_alloc_last _ _), heap_alloc2_new _ _ _, alloc2_below _ _ _⟩
/-- What was laid behind the end may be written. -/
theorem below_row1 {w w' : World} {n m : Nat} (h : Below n w w') (hm : n ≤ m) (cs : Array Value) : Below n w (w'.setRow m cs) :=
  ⟨h.os, h.tape, h.output, by rw [size_setRow]; exact h.size, fun i hi => by rw [setRow_other _ _ _ _ (by omega)]; exact h.block i hi⟩
theorem alloc_old1 (w : World) (o : Obj) {i : Nat} {v : Obj} (h : w.heap[i]? = some v) : (w.alloc o).heap[i]? = some v := by
  rw [heap_alloc_old w o (lt_of_block h)]; exact h
set_option maxHeartbeats 3200000 in
theorem anew_step (who : ByteArray) (hw : who.size ≤ 1099511627776) (z : Kb) (hk : z.kind = 2) (w : World) :
    Calls Try.prog 33 #[.string who, .agg (kbC z)] w fun e w' => e = .returned (.agg #[.int .i64 2, .int .i64 0, .int .i64 0, .string who, .int .i64 z.sseq, .int .i64 z.szone, .int .i64 z.shour, .bool z.sbuy, .int .i64 z.sqty, .int .i64 z.sprice, .string ⟨#[]⟩, .int .i64 0, .int .i64 0, .bool false, .int .i64 0, .slice none 0 0, .int .i64 0, .int .i64 0]) ∧ Below w.heap.size w w' := by
  unfold kbC
  rw [hk]
  obtain ⟨e1, e2, b1⟩ := two_blocks w (Obj.cells #[.int .i64 2, .int .i64 z.cents, .int .i64 z.seq, .string z.swho, .int .i64 z.sseq, .int .i64 z.szone, .int .i64 z.shour, .bool z.sbuy, .int .i64 z.sqty, .int .i64 z.sprice, .string z.bwho, .int .i64 z.bseq, .int .i64 z.bzone, .bool z.bbuy, .int .i64 z.bprice, z.qv, .int .i64 z.parent, .int .i64 z.group] 28) (Obj.cells #[.int .i64 0, .int .i64 0, .int .i64 0, .string ⟨#[]⟩, .int .i64 0, .int .i64 0, .int .i64 0, .bool false, .int .i64 0, .int .i64 0, .string ⟨#[]⟩, .int .i64 0, .int .i64 0, .bool false, .int .i64 0, .slice none 0 0, .int .i64 0, .int .i64 0] 28)
  go_enter Try.func33, Try.ntmps33
  go_wp2_with fail
  generalize (w.alloc (Obj.cells #[.int .i64 2, .int .i64 z.cents, .int .i64 z.seq, .string z.swho, .int .i64 z.sseq, .int .i64 z.szone, .int .i64 z.shour, .bool z.sbuy, .int .i64 z.sqty, .int .i64 z.sprice, .string z.bwho, .int .i64 z.bseq, .int .i64 z.bzone, .bool z.bbuy, .int .i64 z.bprice, z.qv, .int .i64 z.parent, .int .i64 z.group] 28)).alloc (Obj.cells #[.int .i64 0, .int .i64 0, .int .i64 0, .string ⟨#[]⟩, .int .i64 0, .int .i64 0, .int .i64 0, .bool false, .int .i64 0, .int .i64 0, .string ⟨#[]⟩, .int .i64 0, .int .i64 0, .bool false, .int .i64 0, .slice none 0 0, .int .i64 0, .int .i64 0] 28) = w1 at *
  refine (sclone_any who w1 hw).mono ?_
  rintro r2 w2 ⟨rfl, b2⟩
  have f1 := blk_below e1 b2
  have f2 := blk_below e2 b2
  have B2 := chain2 b1 b2
  have a0 := blk_cell f1 0 (.int .i64 2) rfl
  have a3 := blk_cell f1 3 (.string z.swho) rfl
  have a4 := blk_cell f1 4 (.int .i64 z.sseq) rfl
  have a5 := blk_cell f1 5 (.int .i64 z.szone) rfl
  have a6 := blk_cell f1 6 (.int .i64 z.shour) rfl
  have a7 := blk_cell f1 7 (.bool z.sbuy) rfl
  have a8 := blk_cell f1 8 (.int .i64 z.sqty) rfl
  have a9 := blk_cell f1 9 (.int .i64 z.sprice) rfl
  have hr : ∀ o, rowOf (w2.alloc o) (w.heap.size + 1) 18 = true := fun o => rowOf_is (alloc_old1 w2 o f2) rfl
  have hlt1 := lt_of_block f2
  have hnn : ¬ w2.heap.size = w.heap.size + 1 := by omega
  have HF2 := hid f2
  have HLT := hid hlt1
  clear e1 e2 b1 b2 f1 f2 hlt1
  generalize hn : w.heap.size = n at *
  go_wp2_with (refine wpList_store_new rfl 23 _ _ rfl _ _ _ rfl (by simp) rfl 7 info_apiStep (by rfl) (by rfl) (by simp [Value.oneCell']) ?_)
  have e5 := setRow_heap _ _ _ #[.int .i64 2, .int .i64 0, .int .i64 0, .string who, .int .i64 z.sseq, .int .i64 z.szone, .int .i64 z.shour, .bool z.sbuy, .int .i64 z.sqty, .int .i64 z.sprice, .string ⟨#[]⟩, .int .i64 0, .int .i64 0, .bool false, .int .i64 0, .slice none 0 0, .int .i64 0, .int .i64 0] _ _ (alloc_old1 w2 (Obj.cells #[.string who, .int .i64 z.sseq, .int .i64 z.szone, .int .i64 z.shour, .bool z.sbuy, .int .i64 z.sqty, .int .i64 z.sprice] 23) HF2.out)
  exact bodyPost_ret (results_cell_row Try.results33 _ _ (n + 1) _ _ _ _ (by rfl) e5 Try.underlying28 (by rfl) info_Ask) rfl ⟨rfl, by rw [hn]; exact below_row1 (m := n + 1) (B2.alloc (by have := HLT.out; omega) _) (by omega) _⟩
set_option maxHeartbeats 3200000 in
theorem anew_block (who : ByteArray) (hw : who.size ≤ 1099511627776) (z : Kb) (hk : z.kind = 3) (w : World) (hi : Ints w z.qv z.Q) (hl : z.Q.length ≤ 1000000000) :
    Calls Try.prog 33 #[.string who, .agg (kbC z)] w fun e w' => ∃ qa qn qc, e = .returned (.agg #[.int .i64 3, .int .i64 0, .int .i64 0, .string ⟨#[]⟩, .int .i64 0, .int .i64 0, .int .i64 0, .bool false, .int .i64 0, .int .i64 0, .string who, .int .i64 z.bseq, .int .i64 z.bzone, .bool z.bbuy, .int .i64 z.bprice, .slice qa qn qc, .int .i64 z.parent, .int .i64 z.group]) ∧ Ints w' (.slice qa qn qc) z.Q ∧ (z.Q = [] ∨ ∀ b off n' c', Value.slice qa qn qc = .slice (some ⟨b, off, none⟩) n' c' → w.heap.size ≤ b ∧ b < w'.heap.size) ∧ Below w.heap.size w w' := by
  unfold kbC
  rw [hk]
  obtain ⟨va, vc, hv, _⟩ := hi.slice
  rw [hv] at hi ⊢
  obtain ⟨e1, e2, b1⟩ := two_blocks w (Obj.cells #[.int .i64 3, .int .i64 z.cents, .int .i64 z.seq, .string z.swho, .int .i64 z.sseq, .int .i64 z.szone, .int .i64 z.shour, .bool z.sbuy, .int .i64 z.sqty, .int .i64 z.sprice, .string z.bwho, .int .i64 z.bseq, .int .i64 z.bzone, .bool z.bbuy, .int .i64 z.bprice, .slice va z.Q.length vc, .int .i64 z.parent, .int .i64 z.group] 28) (Obj.cells #[.int .i64 0, .int .i64 0, .int .i64 0, .string ⟨#[]⟩, .int .i64 0, .int .i64 0, .int .i64 0, .bool false, .int .i64 0, .int .i64 0, .string ⟨#[]⟩, .int .i64 0, .int .i64 0, .bool false, .int .i64 0, .slice none 0 0, .int .i64 0, .int .i64 0] 28)
  go_enter Try.func33, Try.ntmps33
  go_wp2_with fail
  generalize (w.alloc (Obj.cells #[.int .i64 3, .int .i64 z.cents, .int .i64 z.seq, .string z.swho, .int .i64 z.sseq, .int .i64 z.szone, .int .i64 z.shour, .bool z.sbuy, .int .i64 z.sqty, .int .i64 z.sprice, .string z.bwho, .int .i64 z.bseq, .int .i64 z.bzone, .bool z.bbuy, .int .i64 z.bprice, .slice va z.Q.length vc, .int .i64 z.parent, .int .i64 z.group] 28)).alloc (Obj.cells #[.int .i64 0, .int .i64 0, .int .i64 0, .string ⟨#[]⟩, .int .i64 0, .int .i64 0, .int .i64 0, .bool false, .int .i64 0, .int .i64 0, .string ⟨#[]⟩, .int .i64 0, .int .i64 0, .bool false, .int .i64 0, .slice none 0 0, .int .i64 0, .int .i64 0] 28) = w1 at *
  refine (sclone_any who w1 hw).mono ?_
  rintro r2 w2 ⟨rfl, b2⟩
  have f1 := blk_below e1 b2
  have f2 := blk_below e2 b2
  have B2 := chain2 b1 b2
  have a0 := blk_cell f1 0 (.int .i64 3) rfl
  have a10 := blk_cell f1 10 (.string z.bwho) rfl
  have a11 := blk_cell f1 11 (.int .i64 z.bseq) rfl
  have a12 := blk_cell f1 12 (.int .i64 z.bzone) rfl
  have a13 := blk_cell f1 13 (.bool z.bbuy) rfl
  have a14 := blk_cell f1 14 (.int .i64 z.bprice) rfl
  have a15 := blk_cell f1 15 (.slice va z.Q.length vc) rfl
  have a16 := blk_cell f1 16 (.int .i64 z.parent) rfl
  have a17 := blk_cell f1 17 (.int .i64 z.group) rfl
  have hlt1 := lt_of_block f2
  have hnn : ¬ w2.heap.size = w.heap.size + 1 := by omega
  have HF2 := hid f2
  have HLT := hid hlt1
  have HI := hid hi
  clear e1 e2 b1 b2 f1 f2 hlt1 hv hi
  obtain ⟨ql, HQ⟩ : ∃ ql, Hid (ql = z.Q.length) := ⟨_, hid rfl⟩
  rw [← HQ.out] at a15 HI
  generalize hn : w.heap.size = n at *
  have HN := hid hn
  clear hn
  go_wp2_with (first | (refine wpList_store_new rfl 26 _ _ rfl _ _ _ rfl (by simp) rfl 8 info_apiBlock (by rfl) (by rfl) (by simp [Value.oneCell']) ?_) | fail)
  have b3 := (Below.refl w2.heap.size w2).alloc (Nat.le_refl _) (Obj.cells #[.string z.bwho, .int .i64 z.bseq, .int .i64 z.bzone, .bool z.bbuy, .int .i64 z.bprice, .slice va ql vc, .int .i64 z.parent, .int .i64 z.group] 26)
  have g3 := heap_alloc_last w2 (Obj.cells #[.string z.bwho, .int .i64 z.bseq, .int .i64 z.bzone, .bool z.bbuy, .int .i64 z.bprice, .slice va ql vc, .int .i64 z.parent, .int .i64 z.group] 26)
  have f3 := alloc_old1 w2 (Obj.cells #[.string z.bwho, .int .i64 z.bseq, .int .i64 z.bzone, .bool z.bbuy, .int .i64 z.bprice, .slice va ql vc, .int .i64 z.parent, .int .i64 z.group] 26) HF2.out
  clear a0 a10 a11 a12 a13 a14 a15 a16 a17
  have hi3 : Ints (w2.alloc (Obj.cells #[.string z.bwho, .int .i64 z.bseq, .int .i64 z.bzone, .bool z.bbuy, .int .i64 z.bprice, .slice va ql vc, .int .i64 z.parent, .int .i64 z.group] 26)) (.slice va ql vc) z.Q := by
    have hn := HN.out
    subst hn
    exact HI.out.below (chain2 B2 b3)
  generalize w2.alloc (Obj.cells #[.string z.bwho, .int .i64 z.bseq, .int .i64 z.bzone, .bool z.bbuy, .int .i64 z.bprice, .slice va ql vc, .int .i64 z.parent, .int .i64 z.group] 26) = w3 at *
  refine (clone_any w3 _ z.Q hi3 hl).mono ?_
  rintro e w4 ⟨qa, qn, qc, rfl, hi4, hq4, b4⟩
  have g4 := blk_below g3 b4
  have f4 := blk_below f3 b4
  have hsz : n + 1 < w2.heap.size := HLT.out
  have hsz4 : w2.heap.size ≤ w4.heap.size := Nat.le_trans b3.size b4.size
  have hsz3 : w2.heap.size < w3.heap.size := lt_of_block g3
  have b34 : Below w2.heap.size w2 w4 := chain2 b3 b4
  have d0 := blk_cell g4 0 (.string z.bwho) rfl
  have d1 := blk_cell g4 1 (.int .i64 z.bseq) rfl
  have d2 := blk_cell g4 2 (.int .i64 z.bzone) rfl
  have d3 := blk_cell g4 3 (.bool z.bbuy) rfl
  have d4 := blk_cell g4 4 (.int .i64 z.bprice) rfl
  have d5 := blk_cell g4 5 (.slice va ql vc) rfl
  have d6 := blk_cell g4 6 (.int .i64 z.parent) rfl
  have d7 := blk_cell g4 7 (.int .i64 z.group) rfl
  have fr0 := blk_free g4 0
  have fr5 := blk_free g4 5
  have hne : ¬ w2.heap.size = n + 1 := by omega
  have hne' : n + 1 ≠ w2.heap.size := by omega
  have ks : Kx (fun i => i = w2.heap.size) w4 ((w4.setCell ⟨w2.heap.size, 0, none⟩ (.string who)).setCell ⟨w2.heap.size, 5, none⟩ (.slice qa qn qc)) := Kx.set (S := fun i => i = w2.heap.size) (g := w2.heap.size) (Kx.set (S := fun i => i = w2.heap.size) (g := w2.heap.size) (Kx.refl _ w4) rfl _) rfl _
  have f5 := ks.blk f4 hne'
  have hr := rowOf_is (n := 18) f5 rfl
  have HI4 := hid hi4
  have HQ4 := hid hq4
  have KS := hid ks
  have F5 := hid f5
  have HB34 := hid b34
  have hq3 := hid hsz3
  clear hi4 hq4 f4 g4 f3 g3 b3 b4 ks f5 b34 hi3 hsz hsz4 hsz3
  generalize ht : w2.heap.size = t at *
  go_wp2
  have hn := HN.out
  subst hn
  have e6 := setRow_heap _ _ _ #[.int .i64 3, .int .i64 0, .int .i64 0, .string ⟨#[]⟩, .int .i64 0, .int .i64 0, .int .i64 0, .bool false, .int .i64 0, .int .i64 0, .string who, .int .i64 z.bseq, .int .i64 z.bzone, .bool z.bbuy, .int .i64 z.bprice, .slice qa qn qc, .int .i64 z.parent, .int .i64 z.group] _ _ F5.out
  have bb : Below w.heap.size w w4 := B2.trans (HB34.out.mono (by have := HLT.out; omega))
  have bs : Below w.heap.size w ((w4.setCell ⟨t, 0, none⟩ (.string who)).setCell ⟨t, 5, none⟩ (.slice qa qn qc)) := bb.trans ((KS.out.below (B := t) (by have := HB34.out.size; omega) (fun b hb => by omega)).mono (by have := HLT.out; omega))
  have hres : Ints (((w4.setCell ⟨t, 0, none⟩ (.string who)).setCell ⟨t, 5, none⟩ (.slice qa qn qc)).setRow (w.heap.size + 1) #[.int .i64 3, .int .i64 0, .int .i64 0, .string ⟨#[]⟩, .int .i64 0, .int .i64 0, .int .i64 0, .bool false, .int .i64 0, .int .i64 0, .string who, .int .i64 z.bseq, .int .i64 z.bzone, .bool z.bbuy, .int .i64 z.bprice, .slice qa qn qc, .int .i64 z.parent, .int .i64 z.group]) (.slice qa qn qc) z.Q := by
    rcases HQ4.out with h0 | h0
    · rw [h0]
      have := HI4.out
      rw [h0] at this
      obtain ⟨a', c', x1, x2, x3, _⟩ := this
      exact ⟨a', c', x1, x2, x3, Or.inl rfl⟩
    · refine Row1.kx (S := fun i => i = t ∨ i = w.heap.size + 1) HI4.out (Kx.row (S := fun i => i = t ∨ i = w.heap.size + 1) (g := w.heap.size + 1) (KS.out.mono (fun i hi => Or.inl hi)) (Or.inr rfl) _) ?_
      intro b off n' c' e hb
      have := (h0 b off n' c' e).1
      have := HLT.out
      have := hq3.out
      omega
  have hsz6 : (((w4.setCell ⟨t, 0, none⟩ (.string who)).setCell ⟨t, 5, none⟩ (.slice qa qn qc)).setRow (w.heap.size + 1) #[.int .i64 3, .int .i64 0, .int .i64 0, .string ⟨#[]⟩, .int .i64 0, .int .i64 0, .int .i64 0, .bool false, .int .i64 0, .int .i64 0, .string who, .int .i64 z.bseq, .int .i64 z.bzone, .bool z.bbuy, .int .i64 z.bprice, .slice qa qn qc, .int .i64 z.parent, .int .i64 z.group]).heap.size = w4.heap.size := by simp
  exact bodyPost_ret (results_cell_row Try.results33 _ _ (w.heap.size + 1) _ _ _ _ (by rfl) e6 Try.underlying28 (by rfl) info_Ask) rfl ⟨qa, qn, qc, rfl, hres, by
    rcases HQ4.out with h0 | h0
    · exact Or.inl h0
    · refine Or.inr fun b off n' c' e => ?_
      have h1 := h0 b off n' c' e
      have := HLT.out
      have := hq3.out
      rw [hsz6]; omega, below_row1 bs (by omega) _⟩
end Go.Proofs.Ytbkobimbdiogfaa
