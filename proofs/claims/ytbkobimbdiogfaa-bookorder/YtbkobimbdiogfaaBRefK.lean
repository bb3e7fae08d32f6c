/- BookOrder: the document's order, a Block. -/
import Derived.Test.YtbkobimbdiogfaaBRefJ
namespace Go.Proofs.Ytbkobimbdiogfaa
open Go.RowKit Go.MapKept
set_option linter.unusedVariables false
set_option maxRecDepth 100000
set_option linter.unusedSimpArgs false

set_option maxHeartbeats 6400000 in
theorem bkorder_block {w : World} {bb : Nat} {who : ByteArray} {a : Option Addr} {cap : Nat} {R : Rf} (h : RB w bb who a cap R) (hb : ∀ k, k ≤ R.length → 0 ≤ lockR (R.take k) ∧ lockR (R.take k) ≤ 24000000000) (z : Kb) (hk : z.kind = 3) (hi : Ints w z.qv z.Q) :
    Calls Try.prog 58 #[.pointer (some ⟨bb, 0, none⟩), .string who, .agg (kbC z)] w fun e w' => e = .returned (.int .i64 (ordR R z)) ∧ Below w.heap.size w w' := by
  obtain ⟨qa, qc, hq0, hqc, hqm⟩ := hi.slice
  have hkb : kbC z = #[.int .i64 3, .int .i64 z.cents, .int .i64 z.seq, .string z.swho, .int .i64 z.sseq, .int .i64 z.szone, .int .i64 z.shour, .bool z.sbuy, .int .i64 z.sqty, .int .i64 z.sprice, .string z.bwho, .int .i64 z.bseq, .int .i64 z.bzone, .bool z.bbuy, .int .i64 z.bprice, .slice qa z.Q.length qc, .int .i64 z.parent, .int .i64 z.group] := by unfold kbC; rw [hq0, hk]
  have HK := hid hkb
  rw [hkb]
  clear hkb
  have hl := h.len
  have hc := h.cap_
  have b1 : Below w.heap.size w (w.alloc (Obj.cells #[.int .i64 3, .int .i64 z.cents, .int .i64 z.seq, .string z.swho, .int .i64 z.sseq, .int .i64 z.szone, .int .i64 z.shour, .bool z.sbuy, .int .i64 z.sqty, .int .i64 z.sprice, .string z.bwho, .int .i64 z.bseq, .int .i64 z.bzone, .bool z.bbuy, .int .i64 z.bprice, .slice qa z.Q.length qc, .int .i64 z.parent, .int .i64 z.group] 31)) := (Below.refl w.heap.size w).alloc (Nat.le_refl _) _
  have e1 : (w.alloc (Obj.cells #[.int .i64 3, .int .i64 z.cents, .int .i64 z.seq, .string z.swho, .int .i64 z.sseq, .int .i64 z.szone, .int .i64 z.shour, .bool z.sbuy, .int .i64 z.sqty, .int .i64 z.sprice, .string z.bwho, .int .i64 z.bseq, .int .i64 z.bzone, .bool z.bbuy, .int .i64 z.bprice, .slice qa z.Q.length qc, .int .i64 z.parent, .int .i64 z.group] 31)).heap[w.heap.size]? = _ := heap_alloc_last w _
  have a0 := blk_cell e1 0 (.int .i64 3) rfl
  have a1 := blk_cell e1 1 (.int .i64 z.cents) rfl
  have a2 := blk_cell e1 2 (.int .i64 z.seq) rfl
  have a3 := blk_cell e1 3 (.string z.swho) rfl
  have a4 := blk_cell e1 4 (.int .i64 z.sseq) rfl
  have a5 := blk_cell e1 5 (.int .i64 z.szone) rfl
  have a6 := blk_cell e1 6 (.int .i64 z.shour) rfl
  have a7 := blk_cell e1 7 (.bool z.sbuy) rfl
  have a8 := blk_cell e1 8 (.int .i64 z.sqty) rfl
  have a9 := blk_cell e1 9 (.int .i64 z.sprice) rfl
  have a10 := blk_cell e1 10 (.string z.bwho) rfl
  have a11 := blk_cell e1 11 (.int .i64 z.bseq) rfl
  have a12 := blk_cell e1 12 (.int .i64 z.bzone) rfl
  have a13 := blk_cell e1 13 (.bool z.bbuy) rfl
  have a14 := blk_cell e1 14 (.int .i64 z.bprice) rfl
  have a15 := blk_cell e1 15 (.slice qa z.Q.length qc) rfl
  have a16 := blk_cell e1 16 (.int .i64 z.parent) rfl
  have a17 := blk_cell e1 17 (.int .i64 z.group) rfl
  have HS := hid (fun X : World => show Calls Try.prog 60 #[.agg #[.int .i64 3, .int .i64 z.cents, .int .i64 z.seq, .string z.swho, .int .i64 z.sseq, .int .i64 z.szone, .int .i64 z.shour, .bool z.sbuy, .int .i64 z.sqty, .int .i64 z.sprice, .string z.bwho, .int .i64 z.bseq, .int .i64 z.bzone, .bool z.bbuy, .int .i64 z.bprice, .slice qa z.Q.length qc, .int .i64 z.parent, .int .i64 z.group]] X (fun e w' => e = .returned (.int .i64 (seqK z)) ∧ Below X.heap.size X w') by rw [← HK.out]; exact bkseq_any z X ⟨_, _, _, hq0⟩)
  have HJ := hid (fun (X : World) (bX : Below w.heap.size w X) => show Calls Try.prog 10 #[.agg #[.int .i64 3, .int .i64 z.cents, .int .i64 z.seq, .string z.swho, .int .i64 z.sseq, .int .i64 z.szone, .int .i64 z.shour, .bool z.sbuy, .int .i64 z.sqty, .int .i64 z.sprice, .string z.bwho, .int .i64 z.bseq, .int .i64 z.bzone, .bool z.bbuy, .int .i64 z.bprice, .slice qa z.Q.length qc, .int .i64 z.parent, .int .i64 z.group]] X (fun e w' => e = .returned (.int .i64 (kbO z).cost) ∧ Below X.heap.size X w') by rw [← HK.out]; exact jowes_any z X (Or.inr hk) (hi.below bX))
  have HE1 := hid e1
  have HB1 := hid b1
  have HH := hid h
  have HO := hid (show ordR R z = if (getR R (seqK z)).isSome = true then 100 else if (3 : Int) ≤ ((cntO (liveR R) 3 : Nat) : Int) then 101 else if 0 < z.parent ∧ badPar R z.parent = true then 103 else if lockR R < wrap64 (owesW (liveR R) + (kbO z).cost) then 221 else 0 by
    unfold ordR
    have h3 : (z.kind = 3 ∧ 0 < z.parent ∧ badPar R z.parent = true) = (0 < z.parent ∧ badPar R z.parent = true) := by rw [hk]; simp
    rw [show mostK z.kind = 3 by unfold mostK; rw [if_neg (by omega)]]
    simp only [h3]
    rw [hk])
  clear h hi hq0 hk e1 b1 HK
  go_enter Try.func58, Try.ntmps58
  go_wp2_with fail
  refine (HS.out _).mono ?_
  rintro e X1 ⟨rfl, bX1⟩
  have B1 := hid (chain2 HB1.out bX1)
  have E1 := (Kx.of_below (S := fun _ => False) bX1).blk HE1.out (fun h => h)
  clear bX1 HE1 HB1
  clear a0 a1 a2 a3 a4 a5 a6 a7 a8 a9 a10 a11 a12 a13 a14 a15 a16 a17
  go_wp2_with fail
  refine (bkfind_any (HH.out.below B1.out) (seqK z)).mono ?_
  rintro e X2 ⟨rfl, bX2⟩
  have B2 := hid (chain2 B1.out bX2)
  have E2 := (Kx.of_below (S := fun _ => False) bX2).blk E1 (fun h => h)
  clear bX2 E1 B1
  cases hf : fndR R (seqK z) with
  | some i =>
    obtain ⟨hi, hg, _⟩ := fnd_some hf
    have HA := hid (show ordR R z = 100 by rw [HO.out, hg, if_pos (show (some R[i]).isSome = true from rfl)])
    have h0 : decide ((0 : Int) ≤ (i : Int)) = true := by simp
    have hfi : fndI (some i) = (i : Int) := rfl
    rw [hfi]
    clear hfi hg
    go_wp2
    go_ret
    exact ⟨by rw [HA.out]; rfl, B2.out⟩
  | none =>
    have hg := fnd_none hf
    have HO2 := hid (HO.out)
    rw [hg, if_neg (by decide)] at HO2
    have hfi : fndI none = -1 := rfl
    rw [hfi]
    clear hfi hg HO hf
    have a0 := blk_cell E2 0 (.int .i64 3) rfl
    have a1 := blk_cell E2 1 (.int .i64 z.cents) rfl
    have a2 := blk_cell E2 2 (.int .i64 z.seq) rfl
    have a3 := blk_cell E2 3 (.string z.swho) rfl
    have a4 := blk_cell E2 4 (.int .i64 z.sseq) rfl
    have a5 := blk_cell E2 5 (.int .i64 z.szone) rfl
    have a6 := blk_cell E2 6 (.int .i64 z.shour) rfl
    have a7 := blk_cell E2 7 (.bool z.sbuy) rfl
    have a8 := blk_cell E2 8 (.int .i64 z.sqty) rfl
    have a9 := blk_cell E2 9 (.int .i64 z.sprice) rfl
    have a10 := blk_cell E2 10 (.string z.bwho) rfl
    have a11 := blk_cell E2 11 (.int .i64 z.bseq) rfl
    have a12 := blk_cell E2 12 (.int .i64 z.bzone) rfl
    have a13 := blk_cell E2 13 (.bool z.bbuy) rfl
    have a14 := blk_cell E2 14 (.int .i64 z.bprice) rfl
    have a15 := blk_cell E2 15 (.slice qa z.Q.length qc) rfl
    have a16 := blk_cell E2 16 (.int .i64 z.parent) rfl
    have a17 := blk_cell E2 17 (.int .i64 z.group) rfl
    have HE2 := hid E2
    clear E2
    go_wp2_with fail
    refine (bkalive_any (HH.out.below B2.out) 3).mono ?_
    rintro e X3 ⟨rfl, bX3⟩
    have B3 := hid (chain2 B2.out bX3)
    have E3 := (Kx.of_below (S := fun _ => False) bX3).blk HE2.out (fun h => h)
    clear bX3 HE2 B2
    clear a0 a1 a2 a3 a4 a5 a6 a7 a8 a9 a10 a11 a12 a13 a14 a15 a16 a17
    have a0 := blk_cell E3 0 (.int .i64 3) rfl
    have a1 := blk_cell E3 1 (.int .i64 z.cents) rfl
    have a2 := blk_cell E3 2 (.int .i64 z.seq) rfl
    have a3 := blk_cell E3 3 (.string z.swho) rfl
    have a4 := blk_cell E3 4 (.int .i64 z.sseq) rfl
    have a5 := blk_cell E3 5 (.int .i64 z.szone) rfl
    have a6 := blk_cell E3 6 (.int .i64 z.shour) rfl
    have a7 := blk_cell E3 7 (.bool z.sbuy) rfl
    have a8 := blk_cell E3 8 (.int .i64 z.sqty) rfl
    have a9 := blk_cell E3 9 (.int .i64 z.sprice) rfl
    have a10 := blk_cell E3 10 (.string z.bwho) rfl
    have a11 := blk_cell E3 11 (.int .i64 z.bseq) rfl
    have a12 := blk_cell E3 12 (.int .i64 z.bzone) rfl
    have a13 := blk_cell E3 13 (.bool z.bbuy) rfl
    have a14 := blk_cell E3 14 (.int .i64 z.bprice) rfl
    have a15 := blk_cell E3 15 (.slice qa z.Q.length qc) rfl
    have a16 := blk_cell E3 16 (.int .i64 z.parent) rfl
    have a17 := blk_cell E3 17 (.int .i64 z.group) rfl
    have HE3 := hid E3
    clear E3
    generalize cntO (liveR R) 3 = c at *
    by_cases hc8 : (3 : Int) ≤ (c : Int)
    · have HA := hid (show ordR R z = 101 by rw [HO2.out, if_pos hc8])
      go_wp2
      go_ret
      exact ⟨by rw [HA.out]; rfl, B3.out⟩
    · have hc8' : decide ((3 : Int) ≤ (c : Int)) = false := by simpa using hc8
      have HO3 := hid HO2.out
      rw [if_neg hc8] at HO3
      clear HO2
      by_cases hp : 0 < z.parent
      · have hp' : decide (0 < z.parent) = true := by simpa using hp
        go_wp2_with fail
        refine (bkfind_any (HH.out.below B3.out) z.parent).mono ?_
        rintro e X4 ⟨rfl, bX4⟩
        have B4 := hid (chain2 B3.out bX4)
        have E4 := (Kx.of_below (S := fun _ => False) bX4).blk HE3.out (fun h => h)
        clear bX4 HE3 B3
        clear a0 a1 a2 a3 a4 a5 a6 a7 a8 a9 a10 a11 a12 a13 a14 a15 a16 a17
        cases hf : fndR R z.parent with
        | none =>
          have HA := hid (show ordR R z = 103 by rw [HO3.out, if_pos ⟨hp, by unfold badPar; rw [fnd_none hf]⟩])
          have hfi : fndI none = -1 := rfl
          rw [hfi]
          clear hfi hf
          go_wp2
          go_ret
          exact ⟨by rw [HA.out]; rfl, B4.out⟩
        | some i =>
          obtain ⟨hi, hg, _⟩ := fnd_some hf
          have hR := HH.out.below B4.out
          have c0 := blk_cell hR.blk 0 (.slice a R.length cap) rfl
          obtain ⟨g, rfl, hcell⟩ := hR.at_ i hi
          have d1 := hcell 1 (.int .i64 (R[i]).1.kind) rfl
          have d19 := hcell 19 (.bool (R[i]).2) rfl
          have HBP := hid (show badPar R z.parent = ((R[i]).2 || !decide ((R[i]).1.kind = 3)) by unfold badPar; rw [hg])
          have hfi : fndI (some i) = (i : Int) := rfl
          have hneg : decide ((i : Int) < 0) = false := by simp
          rw [hfi]
          clear hfi hf hg hcell hR
          generalize (R[i]).1.kind = K at *
          generalize (R[i]).2 = G at *
          cases G with
          | true =>
            have HA := hid (show ordR R z = 103 by rw [HO3.out, if_pos ⟨hp, by rw [HBP.out]; rfl⟩])
            go_wp2
            go_ret
            exact ⟨by rw [HA.out]; rfl, B4.out⟩
          | false =>
            by_cases hK : K = 3
            · subst hK
              have HO4 := hid HO3.out
              rw [if_neg (fun hh => by have := hh.2; rw [HBP.out] at this; simp at this)] at HO4
              clear HO3 HBP
              have a0 := blk_cell E4 0 (.int .i64 3) rfl
              have a1 := blk_cell E4 1 (.int .i64 z.cents) rfl
              have a2 := blk_cell E4 2 (.int .i64 z.seq) rfl
              have a3 := blk_cell E4 3 (.string z.swho) rfl
              have a4 := blk_cell E4 4 (.int .i64 z.sseq) rfl
              have a5 := blk_cell E4 5 (.int .i64 z.szone) rfl
              have a6 := blk_cell E4 6 (.int .i64 z.shour) rfl
              have a7 := blk_cell E4 7 (.bool z.sbuy) rfl
              have a8 := blk_cell E4 8 (.int .i64 z.sqty) rfl
              have a9 := blk_cell E4 9 (.int .i64 z.sprice) rfl
              have a10 := blk_cell E4 10 (.string z.bwho) rfl
              have a11 := blk_cell E4 11 (.int .i64 z.bseq) rfl
              have a12 := blk_cell E4 12 (.int .i64 z.bzone) rfl
              have a13 := blk_cell E4 13 (.bool z.bbuy) rfl
              have a14 := blk_cell E4 14 (.int .i64 z.bprice) rfl
              have a15 := blk_cell E4 15 (.slice qa z.Q.length qc) rfl
              have a16 := blk_cell E4 16 (.int .i64 z.parent) rfl
              have a17 := blk_cell E4 17 (.int .i64 z.group) rfl
              have HE4 := hid E4
              clear E4
              go_wp2_with fail
              have hww : wrap64 (owesW (liveR R) + (kbO z).cost) = IntKind.i64.wrap (owesW (liveR R) + (kbO z).cost) := by rw [IntKind.wrap_i64]; unfold wrap64; omega
              rw [hww] at HO4
              clear hww
              have H221 := hid (fun hL : lockR R < IntKind.i64.wrap (owesW (liveR R) + (kbO z).cost) => show ordR R z = 221 by rw [HO4.out, if_pos hL])
              have H000 := hid (fun hL : ¬ lockR R < IntKind.i64.wrap (owesW (liveR R) + (kbO z).cost) => show ordR R z = 0 by rw [HO4.out, if_neg hL])
              clear HO4
              go_region_with (first
              | (go_at_call 74; refine (bkOwes_any (HH.out.below (by first | exact B4.out | exact below_dn B4.out _ | exact B4.out.drew | exact (chain2 B4.out bY4') | exact below_dn (chain2 B4.out bY4') _ | exact (chain2 B4.out bY4').drew | exact B5 | exact below_dn B5 _ | exact B5.drew))).mono ?_; rintro e Y4 ⟨rfl, bY4⟩; have bY4' : Below X4.heap.size X4 Y4 := ⟨bY4.os, bY4.tape, bY4.output, bY4.size, bY4.block⟩; have e4 := (Kx.of_below (S := fun _ => False) bY4').blk HE4.out (fun h => h); have q0 := blk_cell e4 0 (.int .i64 3) rfl; have q1 := blk_cell e4 1 (.int .i64 z.cents) rfl; have q2 := blk_cell e4 2 (.int .i64 z.seq) rfl; have q3 := blk_cell e4 3 (.string z.swho) rfl; have q4 := blk_cell e4 4 (.int .i64 z.sseq) rfl; have q5 := blk_cell e4 5 (.int .i64 z.szone) rfl; have q6 := blk_cell e4 6 (.int .i64 z.shour) rfl; have q7 := blk_cell e4 7 (.bool z.sbuy) rfl; have q8 := blk_cell e4 8 (.int .i64 z.sqty) rfl; have q9 := blk_cell e4 9 (.int .i64 z.sprice) rfl; have q10 := blk_cell e4 10 (.string z.bwho) rfl; have q11 := blk_cell e4 11 (.int .i64 z.bseq) rfl; have q12 := blk_cell e4 12 (.int .i64 z.bzone) rfl; have q13 := blk_cell e4 13 (.bool z.bbuy) rfl; have q14 := blk_cell e4 14 (.int .i64 z.bprice) rfl; have q15 := blk_cell e4 15 (.slice qa z.Q.length qc) rfl; have q16 := blk_cell e4 16 (.int .i64 z.parent) rfl; have q17 := blk_cell e4 17 (.int .i64 z.group) rfl; clear e4 bY4)
              | (go_at_call 10; refine (HJ.out _ (by first | exact B4.out | exact below_dn B4.out _ | exact B4.out.drew | exact (chain2 B4.out bY4') | exact below_dn (chain2 B4.out bY4') _ | exact (chain2 B4.out bY4').drew | exact B5 | exact below_dn B5 _ | exact B5.drew)).mono ?_; rintro e Y5 ⟨rfl, bY5⟩; have bY5' : Below Y4.heap.size Y4 Y5 := ⟨bY5.os, bY5.tape, bY5.output, bY5.size, bY5.block⟩; have B5 := chain2 (chain2 B4.out bY4') bY5'; clear bY5)
              | (go_at_call 75; refine (bkLocked_any (HH.out.below (by first | exact B4.out | exact below_dn B4.out _ | exact B4.out.drew | exact (chain2 B4.out bY4') | exact below_dn (chain2 B4.out bY4') _ | exact (chain2 B4.out bY4').drew | exact B5 | exact below_dn B5 _ | exact B5.drew)) hb).mono ?_; rintro e Y6 ⟨rfl, hY6⟩; subst hY6))
              all_goals go_wp2
              all_goals go_ret
              all_goals exact ⟨by first | (rw [H221.out (by omega)]; rfl) | (rw [H000.out (by omega)]; rfl), by first | exact B5 | exact below_dn B5 _ | exact B5.drew⟩
            · have hK1 : (K == 3) = false := by simpa using hK
              have hK2 : decide (K = 3) = false := by simpa using hK
              have HA := hid (show ordR R z = 103 by rw [HO3.out, if_pos ⟨hp, by rw [HBP.out]; simp [hK]⟩])
              go_wp2
              go_ret
              exact ⟨by rw [HA.out]; rfl, B4.out⟩
      · have hp' : decide (0 < z.parent) = false := by simpa using hp
        have HO4 := hid HO3.out
        rw [if_neg (fun hh => hp hh.1)] at HO4
        clear HO3
        go_wp2_with fail
        have hww : wrap64 (owesW (liveR R) + (kbO z).cost) = IntKind.i64.wrap (owesW (liveR R) + (kbO z).cost) := by rw [IntKind.wrap_i64]; unfold wrap64; omega
        rw [hww] at HO4
        clear hww
        have H221 := hid (fun hL : lockR R < IntKind.i64.wrap (owesW (liveR R) + (kbO z).cost) => show ordR R z = 221 by rw [HO4.out, if_pos hL])
        have H000 := hid (fun hL : ¬ lockR R < IntKind.i64.wrap (owesW (liveR R) + (kbO z).cost) => show ordR R z = 0 by rw [HO4.out, if_neg hL])
        clear HO4
        go_region_with (first
        | (go_at_call 74; refine (bkOwes_any (HH.out.below (by first | exact B3.out | exact below_dn B3.out _ | exact B3.out.drew | exact (chain2 B3.out bY4') | exact below_dn (chain2 B3.out bY4') _ | exact (chain2 B3.out bY4').drew | exact B5 | exact below_dn B5 _ | exact B5.drew))).mono ?_; rintro e Y4 ⟨rfl, bY4⟩; have bY4' : Below X3.heap.size X3 Y4 := ⟨bY4.os, bY4.tape, bY4.output, bY4.size, bY4.block⟩; have e4 := (Kx.of_below (S := fun _ => False) bY4').blk HE3.out (fun h => h); have q0 := blk_cell e4 0 (.int .i64 3) rfl; have q1 := blk_cell e4 1 (.int .i64 z.cents) rfl; have q2 := blk_cell e4 2 (.int .i64 z.seq) rfl; have q3 := blk_cell e4 3 (.string z.swho) rfl; have q4 := blk_cell e4 4 (.int .i64 z.sseq) rfl; have q5 := blk_cell e4 5 (.int .i64 z.szone) rfl; have q6 := blk_cell e4 6 (.int .i64 z.shour) rfl; have q7 := blk_cell e4 7 (.bool z.sbuy) rfl; have q8 := blk_cell e4 8 (.int .i64 z.sqty) rfl; have q9 := blk_cell e4 9 (.int .i64 z.sprice) rfl; have q10 := blk_cell e4 10 (.string z.bwho) rfl; have q11 := blk_cell e4 11 (.int .i64 z.bseq) rfl; have q12 := blk_cell e4 12 (.int .i64 z.bzone) rfl; have q13 := blk_cell e4 13 (.bool z.bbuy) rfl; have q14 := blk_cell e4 14 (.int .i64 z.bprice) rfl; have q15 := blk_cell e4 15 (.slice qa z.Q.length qc) rfl; have q16 := blk_cell e4 16 (.int .i64 z.parent) rfl; have q17 := blk_cell e4 17 (.int .i64 z.group) rfl; clear e4 bY4)
        | (go_at_call 10; refine (HJ.out _ (by first | exact B3.out | exact below_dn B3.out _ | exact B3.out.drew | exact (chain2 B3.out bY4') | exact below_dn (chain2 B3.out bY4') _ | exact (chain2 B3.out bY4').drew | exact B5 | exact below_dn B5 _ | exact B5.drew)).mono ?_; rintro e Y5 ⟨rfl, bY5⟩; have bY5' : Below Y4.heap.size Y4 Y5 := ⟨bY5.os, bY5.tape, bY5.output, bY5.size, bY5.block⟩; have B5 := chain2 (chain2 B3.out bY4') bY5'; clear bY5)
        | (go_at_call 75; refine (bkLocked_any (HH.out.below (by first | exact B3.out | exact below_dn B3.out _ | exact B3.out.drew | exact (chain2 B3.out bY4') | exact below_dn (chain2 B3.out bY4') _ | exact (chain2 B3.out bY4').drew | exact B5 | exact below_dn B5 _ | exact B5.drew)) hb).mono ?_; rintro e Y6 ⟨rfl, hY6⟩; subst hY6))
        all_goals go_wp2
        all_goals go_ret
        all_goals exact ⟨by first | (rw [H221.out (by omega)]; rfl) | (rw [H000.out (by omega)]; rfl), by first | exact B5 | exact below_dn B5 _ | exact B5.drew⟩
end Go.Proofs.Ytbkobimbdiogfaa
