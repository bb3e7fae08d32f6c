/- book: what may be asked for. -/
import Derived.Test.YtbkobimbdiogfaaBParent
namespace Go.Proofs.Ytbkobimbdiogfaa
open Go.RowKit Go.MapKept
set_option linter.unusedVariables false
set_option maxRecDepth 100000
set_option linter.unusedSimpArgs false

/-- What a step or block is answered. -/
def ordE (p : Ps) (z : Kb) : Int :=
  if p.seqs.contains (seqK z) = true then 100
  else if mostK z.kind ≤ ((cntO p.orders z.kind : Nat) : Int) then 101
  else if 0 < parK z ∧ isBlk (p.live (parK z)) = false then 103
  else if p.locked < wrap64 (owesW p.orders + (kbO z).cost) then 221
  else 0
theorem parK_in {w : World} {z : Kb} (h : KbFits w z) : In64 (parK z) := by
  unfold parK
  split
  · exact h.parent
  · unfold In64; omega
set_option maxHeartbeats 6400000 in
theorem mayOrder_any {O : Nat → Prop} {w : World} {v : Value} {N : List ByteArray} {S : ByteArray → Ps} (h : Bk O w v N S) (who : ByteArray) (hw : who.size ≤ 1099511627776) (z : Kb) (hk : z.kind = 2 ∨ z.kind = 3) (hz : KbFits w z) :
    Calls Try.prog 49 #[v, .string who, .agg (kbC z)] w fun e w' => e = .returned (.int .i64 (ordE (S who) z)) ∧ Below w.heap.size w w' := by
  have b1 := (Below.refl w.heap.size w).alloc (Nat.le_refl _) (Obj.cells #[.int .i64 z.kind, .int .i64 z.cents, .int .i64 z.seq, .string z.swho, .int .i64 z.sseq, .int .i64 z.szone, .int .i64 z.shour, .bool z.sbuy, .int .i64 z.sqty, .int .i64 z.sprice, .string z.bwho, .int .i64 z.bseq, .int .i64 z.bzone, .bool z.bbuy, .int .i64 z.bprice, z.qv, .int .i64 z.parent, .int .i64 z.group] 28)
  have gn := heap_alloc_last w (Obj.cells #[.int .i64 z.kind, .int .i64 z.cents, .int .i64 z.seq, .string z.swho, .int .i64 z.sseq, .int .i64 z.szone, .int .i64 z.shour, .bool z.sbuy, .int .i64 z.sqty, .int .i64 z.sprice, .string z.bwho, .int .i64 z.bseq, .int .i64 z.bzone, .bool z.bbuy, .int .i64 z.bprice, z.qv, .int .i64 z.parent, .int .i64 z.group] 28)
  obtain ⟨E, HE⟩ : ∃ E, Hid (E = ordE (S who) z) := ⟨_, hid rfl⟩
  rw [← HE.out]
  have hP := fun W => parentOf_any z W
  have hQ := fun W => seqOf_any z W
  have hM := fun W => mostOf_any z.kind W
  have hpi := parK_in hz
  have HBK := hid h
  have HZ := hid hz.ints
  have hO := fun W (i : Ints W z.qv z.Q) => owesK_any z W hk i
  unfold kbC at hP hQ hO ⊢
  have HO := hid hO
  clear h hz hO
  go_enter Try.func49, Try.ntmps49
  go_wp2_with fail
  generalize w.alloc (Obj.cells #[.int .i64 z.kind, .int .i64 z.cents, .int .i64 z.seq, .string z.swho, .int .i64 z.sseq, .int .i64 z.szone, .int .i64 z.shour, .bool z.sbuy, .int .i64 z.sqty, .int .i64 z.sprice, .string z.bwho, .int .i64 z.bseq, .int .i64 z.bzone, .bool z.bbuy, .int .i64 z.bprice, z.qv, .int .i64 z.parent, .int .i64 z.group] 28) = W1 at *
  generalize hnn : w.heap.size = n at *
  have HN := hid hnn
  clear hnn
  refine (hP W1).mono ?_
  rintro e w2 ⟨rfl, b2⟩
  have g2 := blk_below gn b2
  have a0 := blk_cell g2 0 (.int .i64 z.kind) rfl
  have a1 := blk_cell g2 1 (.int .i64 z.cents) rfl
  have a2 := blk_cell g2 2 (.int .i64 z.seq) rfl
  have a3 := blk_cell g2 3 (.string z.swho) rfl
  have a4 := blk_cell g2 4 (.int .i64 z.sseq) rfl
  have a5 := blk_cell g2 5 (.int .i64 z.szone) rfl
  have a6 := blk_cell g2 6 (.int .i64 z.shour) rfl
  have a7 := blk_cell g2 7 (.bool z.sbuy) rfl
  have a8 := blk_cell g2 8 (.int .i64 z.sqty) rfl
  have a9 := blk_cell g2 9 (.int .i64 z.sprice) rfl
  have a10 := blk_cell g2 10 (.string z.bwho) rfl
  have a11 := blk_cell g2 11 (.int .i64 z.bseq) rfl
  have a12 := blk_cell g2 12 (.int .i64 z.bzone) rfl
  have a13 := blk_cell g2 13 (.bool z.bbuy) rfl
  have a14 := blk_cell g2 14 (.int .i64 z.bprice) rfl
  have a15 := blk_cell g2 15 (z.qv) rfl
  have a16 := blk_cell g2 16 (.int .i64 z.parent) rfl
  have a17 := blk_cell g2 17 (.int .i64 z.group) rfl
  go_wp2_with fail
  refine (hQ w2).mono ?_
  rintro e w3 ⟨rfl, b3⟩
  clear a0 a1 a2 a3 a4 a5 a6 a7 a8 a9 a10 a11 a12 a13 a14 a15 a16 a17
  have B3 : Below n w w3 := b1.trans ((chain2 b2 b3).mono (by have := lt_of_block gn; omega))
  have B3' : Below w.heap.size w w3 := by rw [HN.out]; exact B3
  have hH := had_any (HBK.out.below B3') who hw (seqK z)
  go_wp2_with fail
  refine hH.mono ?_
  rintro e w4 ⟨rfl, b4⟩
  clear hH
  have B4 : Below w.heap.size w w4 := chain2 B3' b4
  have g4 := blk_below g2 (chain2 b3 b4)
  by_cases e1 : (S who).seqs.contains (seqK z) = true
  · have HE1 := hid (show E = 100 by rw [HE.out]; unfold ordE; rw [if_pos e1])
    rw [e1]
    go_wp2
    go_ret
    exact ⟨by rw [HE1.out]; rfl, B4⟩
  have e1' : (S who).seqs.contains (seqK z) = false := by simpa using e1
  rw [e1']
  clear g2 b2 b3 b4 gn b1 B3 B3'
  have c0 := blk_cell g4 0 (.int .i64 z.kind) rfl
  have HC := hid (fun W (k : Below w4.heap.size w4 W) => count_any (HBK.out.below (chain2 B4 k)) who hw z.kind)
  have D0 : Below w4.heap.size w4 w4.drew := below_drew1 w4
  have hK0 : ∀ X, Below w4.heap.size w4 X → X.cell? ⟨n, 0, none⟩ = some (.int .i64 z.kind) := fun X k => blk_cell (blk_below g4 k) 0 (.int .i64 z.kind) rfl
  have HK0 := hid hK0
  clear hK0
  go_wp2_with fail
  obtain ⟨cn, hcn⟩ : ∃ cn : Nat, Hid (cn = cntO (S who).orders z.kind) := ⟨_, hid rfl⟩
  obtain ⟨mk, hmk⟩ : ∃ mk : Int, Hid (mk = mostK z.kind) := ⟨_, hid rfl⟩
  go_region_held3 (fun X => X.cell? ⟨n, 0, none⟩ = some (.int .i64 z.kind)) (first | exact HK0.out _ D1 | exact HK0.out _ D0) (first
    | (go_at_call 67; refine (HC.out _ D0).mono ?_; rintro e X1 ⟨rfl, bb⟩; rw [← hcn.out]; have D1 := chain2 D0 bb)
    | (go_at_call 68; refine (hM _).mono ?_; rintro e X2 ⟨rfl, hX2⟩; rw [← hmk.out]; subst hX2))
  clear HC HK0 c0
  have B5 := chain2 B4 D1
  have g5 := blk_below g4 D1
  by_cases e2 : mk ≤ (cn : Int)
  · have HE2 := hid (show E = 101 by rw [HE.out]; unfold ordE; rw [if_neg e1, if_pos (by rw [← hcn.out, ← hmk.out]; exact e2)])
    go_wp2
    go_ret
    exact ⟨by rw [HE2.out]; rfl, B5⟩
  have e2' : decide (mk ≤ (cn : Int)) = false := by simpa using e2
  by_cases e3 : 0 < parK z
  · have hB := hasBlock_any (HBK.out.below B5) who hw (parK z) hpi
    go_wp2_with fail
    refine hB.mono ?_
    rintro e X5 ⟨rfl, b5⟩
    have B6 := chain2 B5 b5
    have gx := blk_below g5 b5
    cases hib : isBlk ((S who).live (parK z)) with
    | false =>
      have HE3 := hid (show E = 103 by rw [HE.out]; unfold ordE; rw [if_neg e1, if_neg (by rw [← hcn.out, ← hmk.out]; omega), if_pos ⟨e3, hib⟩])
      go_wp2
      go_ret
      exact ⟨by rw [HE3.out]; rfl, B6⟩
    | true =>
      have E3 : ¬ (0 < parK z ∧ isBlk ((S who).live (parK z)) = false) := fun hh => by rw [hib] at hh; cases hh.2
      clear hB hib b5
      have F0 : Below X5.heap.size X5 X5.drew := below_drew1 X5
      have HKx := hid (fun Y (k : Below X5.heap.size X5 Y) => show (Y.cell? ⟨n, 0, none⟩ = some (.int .i64 z.kind) ∧ Y.cell? ⟨n, 1, none⟩ = some (.int .i64 z.cents) ∧ Y.cell? ⟨n, 2, none⟩ = some (.int .i64 z.seq) ∧ Y.cell? ⟨n, 3, none⟩ = some (.string z.swho) ∧ Y.cell? ⟨n, 4, none⟩ = some (.int .i64 z.sseq) ∧ Y.cell? ⟨n, 5, none⟩ = some (.int .i64 z.szone) ∧ Y.cell? ⟨n, 6, none⟩ = some (.int .i64 z.shour) ∧ Y.cell? ⟨n, 7, none⟩ = some (.bool z.sbuy) ∧ Y.cell? ⟨n, 8, none⟩ = some (.int .i64 z.sqty) ∧ Y.cell? ⟨n, 9, none⟩ = some (.int .i64 z.sprice) ∧ Y.cell? ⟨n, 10, none⟩ = some (.string z.bwho) ∧ Y.cell? ⟨n, 11, none⟩ = some (.int .i64 z.bseq) ∧ Y.cell? ⟨n, 12, none⟩ = some (.int .i64 z.bzone) ∧ Y.cell? ⟨n, 13, none⟩ = some (.bool z.bbuy) ∧ Y.cell? ⟨n, 14, none⟩ = some (.int .i64 z.bprice) ∧ Y.cell? ⟨n, 15, none⟩ = some (z.qv) ∧ Y.cell? ⟨n, 16, none⟩ = some (.int .i64 z.parent) ∧ Y.cell? ⟨n, 17, none⟩ = some (.int .i64 z.group)) from by
        have g := blk_below gx k
        exact ⟨blk_cell g 0 (.int .i64 z.kind) rfl, blk_cell g 1 (.int .i64 z.cents) rfl, blk_cell g 2 (.int .i64 z.seq) rfl, blk_cell g 3 (.string z.swho) rfl, blk_cell g 4 (.int .i64 z.sseq) rfl, blk_cell g 5 (.int .i64 z.szone) rfl, blk_cell g 6 (.int .i64 z.shour) rfl, blk_cell g 7 (.bool z.sbuy) rfl, blk_cell g 8 (.int .i64 z.sqty) rfl, blk_cell g 9 (.int .i64 z.sprice) rfl, blk_cell g 10 (.string z.bwho) rfl, blk_cell g 11 (.int .i64 z.bseq) rfl, blk_cell g 12 (.int .i64 z.bzone) rfl, blk_cell g 13 (.bool z.bbuy) rfl, blk_cell g 14 (.int .i64 z.bprice) rfl, blk_cell g 15 (z.qv) rfl, blk_cell g 16 (.int .i64 z.parent) rfl, blk_cell g 17 (.int .i64 z.group) rfl⟩)
      have HOW := hid (fun W (k : Below X5.heap.size X5 W) => owes_any (HBK.out.below (chain2 B6 k)) who hw)
      have HLK := hid (fun W (k : Below X5.heap.size X5 W) => locked_any (HBK.out.below (chain2 B6 k)) who hw)
      have HIN := hid (fun W (k : Below X5.heap.size X5 W) => HZ.out.below (chain2 B6 k))
      obtain ⟨ow, how⟩ : ∃ ow : Int, Hid (ow = owesW (S who).orders) := ⟨_, hid rfl⟩
      obtain ⟨lk, hlk⟩ : ∃ lk : Int, Hid (lk = (S who).locked) := ⟨_, hid rfl⟩
      obtain ⟨co, hco⟩ : ∃ co : Int, Hid (co = (kbO z).cost) := ⟨_, hid rfl⟩
      clear gx
      go_wp2_with fail
      go_region_held3 (fun X => X.cell? ⟨n, 0, none⟩ = some (.int .i64 z.kind) ∧ X.cell? ⟨n, 1, none⟩ = some (.int .i64 z.cents) ∧ X.cell? ⟨n, 2, none⟩ = some (.int .i64 z.seq) ∧ X.cell? ⟨n, 3, none⟩ = some (.string z.swho) ∧ X.cell? ⟨n, 4, none⟩ = some (.int .i64 z.sseq) ∧ X.cell? ⟨n, 5, none⟩ = some (.int .i64 z.szone) ∧ X.cell? ⟨n, 6, none⟩ = some (.int .i64 z.shour) ∧ X.cell? ⟨n, 7, none⟩ = some (.bool z.sbuy) ∧ X.cell? ⟨n, 8, none⟩ = some (.int .i64 z.sqty) ∧ X.cell? ⟨n, 9, none⟩ = some (.int .i64 z.sprice) ∧ X.cell? ⟨n, 10, none⟩ = some (.string z.bwho) ∧ X.cell? ⟨n, 11, none⟩ = some (.int .i64 z.bseq) ∧ X.cell? ⟨n, 12, none⟩ = some (.int .i64 z.bzone) ∧ X.cell? ⟨n, 13, none⟩ = some (.bool z.bbuy) ∧ X.cell? ⟨n, 14, none⟩ = some (.int .i64 z.bprice) ∧ X.cell? ⟨n, 15, none⟩ = some (z.qv) ∧ X.cell? ⟨n, 16, none⟩ = some (.int .i64 z.parent) ∧ X.cell? ⟨n, 17, none⟩ = some (.int .i64 z.group)) (first | exact HKx.out _ F2 | exact HKx.out _ F1 | exact HKx.out _ F0) (first
        | (go_at_call 70; have gk := F2; refine (HLK.out _ F2).mono ?_; rintro e Y3 ⟨rfl, hY3⟩; rw [← hlk.out]; subst hY3)
        | (go_at_call 9; have gk := F1; refine (HO.out _ (HIN.out _ F1)).mono ?_; rintro e Y2 ⟨rfl, bb⟩; rw [← hco.out]; have F2 := chain2 F1 bb)
        | (go_at_call 21; have gk := F0; refine (HOW.out _ F0).mono ?_; rintro e Y1 ⟨rfl, bb⟩; rw [← how.out]; have F1 := chain2 F0 bb))
      clear HKx HOW HLK HIN
      have hww := hid (show IntKind.i64.wrap (ow + co) = wrap64 (ow + co) by rw [IntKind.wrap_i64]; first | rfl | (unfold wrap64; omega))
      by_cases e5 : lk < IntKind.i64.wrap (ow + co)
      · have HE5 := hid (show E = 221 by rw [HE.out]; unfold ordE; rw [if_neg e1, if_neg (by rw [← hcn.out, ← hmk.out]; omega), if_neg E3, if_pos (by rw [← hlk.out, ← how.out, ← hco.out, ← hww.out]; omega)])
        go_wp2
        go_ret
        exact ⟨by rw [HE5.out]; rfl, chain2 B6 F2⟩
      · have e5' : decide (lk < IntKind.i64.wrap (ow + co)) = false := by simpa using e5
        have HE5 := hid (show E = 0 by rw [HE.out]; unfold ordE; rw [if_neg e1, if_neg (by rw [← hcn.out, ← hmk.out]; omega), if_neg E3, if_neg (by rw [← hlk.out, ← how.out, ← hco.out, ← hww.out]; omega)])
        go_wp2
        go_ret
        exact ⟨by rw [HE5.out]; rfl, chain2 B6 F2⟩
  · have e3' : decide (0 < parK z) = false := by simpa using e3
    have E3 : ¬ (0 < parK z ∧ isBlk ((S who).live (parK z)) = false) := fun hh => e3 hh.1
    have gx := g5
    have F0 : Below X2.heap.size X2 X2.drew := below_drew1 X2
    have HKx := hid (fun Y (k : Below X2.heap.size X2 Y) => show (Y.cell? ⟨n, 0, none⟩ = some (.int .i64 z.kind) ∧ Y.cell? ⟨n, 1, none⟩ = some (.int .i64 z.cents) ∧ Y.cell? ⟨n, 2, none⟩ = some (.int .i64 z.seq) ∧ Y.cell? ⟨n, 3, none⟩ = some (.string z.swho) ∧ Y.cell? ⟨n, 4, none⟩ = some (.int .i64 z.sseq) ∧ Y.cell? ⟨n, 5, none⟩ = some (.int .i64 z.szone) ∧ Y.cell? ⟨n, 6, none⟩ = some (.int .i64 z.shour) ∧ Y.cell? ⟨n, 7, none⟩ = some (.bool z.sbuy) ∧ Y.cell? ⟨n, 8, none⟩ = some (.int .i64 z.sqty) ∧ Y.cell? ⟨n, 9, none⟩ = some (.int .i64 z.sprice) ∧ Y.cell? ⟨n, 10, none⟩ = some (.string z.bwho) ∧ Y.cell? ⟨n, 11, none⟩ = some (.int .i64 z.bseq) ∧ Y.cell? ⟨n, 12, none⟩ = some (.int .i64 z.bzone) ∧ Y.cell? ⟨n, 13, none⟩ = some (.bool z.bbuy) ∧ Y.cell? ⟨n, 14, none⟩ = some (.int .i64 z.bprice) ∧ Y.cell? ⟨n, 15, none⟩ = some (z.qv) ∧ Y.cell? ⟨n, 16, none⟩ = some (.int .i64 z.parent) ∧ Y.cell? ⟨n, 17, none⟩ = some (.int .i64 z.group)) from by
      have g := blk_below gx k
      exact ⟨blk_cell g 0 (.int .i64 z.kind) rfl, blk_cell g 1 (.int .i64 z.cents) rfl, blk_cell g 2 (.int .i64 z.seq) rfl, blk_cell g 3 (.string z.swho) rfl, blk_cell g 4 (.int .i64 z.sseq) rfl, blk_cell g 5 (.int .i64 z.szone) rfl, blk_cell g 6 (.int .i64 z.shour) rfl, blk_cell g 7 (.bool z.sbuy) rfl, blk_cell g 8 (.int .i64 z.sqty) rfl, blk_cell g 9 (.int .i64 z.sprice) rfl, blk_cell g 10 (.string z.bwho) rfl, blk_cell g 11 (.int .i64 z.bseq) rfl, blk_cell g 12 (.int .i64 z.bzone) rfl, blk_cell g 13 (.bool z.bbuy) rfl, blk_cell g 14 (.int .i64 z.bprice) rfl, blk_cell g 15 (z.qv) rfl, blk_cell g 16 (.int .i64 z.parent) rfl, blk_cell g 17 (.int .i64 z.group) rfl⟩)
    have HOW := hid (fun W (k : Below X2.heap.size X2 W) => owes_any (HBK.out.below (chain2 B5 k)) who hw)
    have HLK := hid (fun W (k : Below X2.heap.size X2 W) => locked_any (HBK.out.below (chain2 B5 k)) who hw)
    have HIN := hid (fun W (k : Below X2.heap.size X2 W) => HZ.out.below (chain2 B5 k))
    obtain ⟨ow, how⟩ : ∃ ow : Int, Hid (ow = owesW (S who).orders) := ⟨_, hid rfl⟩
    obtain ⟨lk, hlk⟩ : ∃ lk : Int, Hid (lk = (S who).locked) := ⟨_, hid rfl⟩
    obtain ⟨co, hco⟩ : ∃ co : Int, Hid (co = (kbO z).cost) := ⟨_, hid rfl⟩
    clear gx
    go_wp2_with fail
    go_region_held3 (fun X => X.cell? ⟨n, 0, none⟩ = some (.int .i64 z.kind) ∧ X.cell? ⟨n, 1, none⟩ = some (.int .i64 z.cents) ∧ X.cell? ⟨n, 2, none⟩ = some (.int .i64 z.seq) ∧ X.cell? ⟨n, 3, none⟩ = some (.string z.swho) ∧ X.cell? ⟨n, 4, none⟩ = some (.int .i64 z.sseq) ∧ X.cell? ⟨n, 5, none⟩ = some (.int .i64 z.szone) ∧ X.cell? ⟨n, 6, none⟩ = some (.int .i64 z.shour) ∧ X.cell? ⟨n, 7, none⟩ = some (.bool z.sbuy) ∧ X.cell? ⟨n, 8, none⟩ = some (.int .i64 z.sqty) ∧ X.cell? ⟨n, 9, none⟩ = some (.int .i64 z.sprice) ∧ X.cell? ⟨n, 10, none⟩ = some (.string z.bwho) ∧ X.cell? ⟨n, 11, none⟩ = some (.int .i64 z.bseq) ∧ X.cell? ⟨n, 12, none⟩ = some (.int .i64 z.bzone) ∧ X.cell? ⟨n, 13, none⟩ = some (.bool z.bbuy) ∧ X.cell? ⟨n, 14, none⟩ = some (.int .i64 z.bprice) ∧ X.cell? ⟨n, 15, none⟩ = some (z.qv) ∧ X.cell? ⟨n, 16, none⟩ = some (.int .i64 z.parent) ∧ X.cell? ⟨n, 17, none⟩ = some (.int .i64 z.group)) (first | exact HKx.out _ F2 | exact HKx.out _ F1 | exact HKx.out _ F0) (first
      | (go_at_call 70; have gk := F2; refine (HLK.out _ F2).mono ?_; rintro e Y3 ⟨rfl, hY3⟩; rw [← hlk.out]; subst hY3)
      | (go_at_call 9; have gk := F1; refine (HO.out _ (HIN.out _ F1)).mono ?_; rintro e Y2 ⟨rfl, bb⟩; rw [← hco.out]; have F2 := chain2 F1 bb)
      | (go_at_call 21; have gk := F0; refine (HOW.out _ F0).mono ?_; rintro e Y1 ⟨rfl, bb⟩; rw [← how.out]; have F1 := chain2 F0 bb))
    clear HKx HOW HLK HIN
    have hww := hid (show IntKind.i64.wrap (ow + co) = wrap64 (ow + co) by rw [IntKind.wrap_i64]; first | rfl | (unfold wrap64; omega))
    by_cases e5 : lk < IntKind.i64.wrap (ow + co)
    · have HE5 := hid (show E = 221 by rw [HE.out]; unfold ordE; rw [if_neg e1, if_neg (by rw [← hcn.out, ← hmk.out]; omega), if_neg E3, if_pos (by rw [← hlk.out, ← how.out, ← hco.out, ← hww.out]; omega)])
      go_wp2
      go_ret
      exact ⟨by rw [HE5.out]; rfl, chain2 B5 F2⟩
    · have e5' : decide (lk < IntKind.i64.wrap (ow + co)) = false := by simpa using e5
      have HE5 := hid (show E = 0 by rw [HE.out]; unfold ordE; rw [if_neg e1, if_neg (by rw [← hcn.out, ← hmk.out]; omega), if_neg E3, if_neg (by rw [← hlk.out, ← how.out, ← hco.out, ← hww.out]; omega)])
      go_wp2
      go_ret
      exact ⟨by rw [HE5.out]; rfl, chain2 B5 F2⟩
end Go.Proofs.Ytbkobimbdiogfaa
