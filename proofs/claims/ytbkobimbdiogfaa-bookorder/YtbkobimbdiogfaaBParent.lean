/- book: is an order the Parent of one that lives? What may be cancelled. -/
import Derived.Test.YtbkobimbdiogfaaBMay2
import Derived.Test.YtbkobimbdiogfaaBMay
import Derived.Deep.RegionHeld3
namespace Go.Proofs.Ytbkobimbdiogfaa
open Go.RowKit Go.MapKept
set_option linter.unusedVariables false
set_option maxRecDepth 100000
set_option linter.unusedSimpArgs false

set_option maxHeartbeats 3200000 in
theorem isParent1_any (z : Kb) (s : Int) (B : Nat) (w : World) (hB : w.cell? ⟨B, 0, none⟩ = some (.int .i64 s)) :
    Calls Try.prog 89 #[.agg (kbC z), .pointer (some ⟨B, 0, none⟩)] w fun e w' => e = .returned (.bool (parK z == s)) ∧ Below w.heap.size w w' := by
  have b1 := (Below.refl w.heap.size w).alloc (Nat.le_refl _) (Obj.cells #[.int .i64 z.kind, .int .i64 z.cents, .int .i64 z.seq, .string z.swho, .int .i64 z.sseq, .int .i64 z.szone, .int .i64 z.shour, .bool z.sbuy, .int .i64 z.sqty, .int .i64 z.sprice, .string z.bwho, .int .i64 z.bseq, .int .i64 z.bzone, .bool z.bbuy, .int .i64 z.bprice, z.qv, .int .i64 z.parent, .int .i64 z.group] 28)
  have gn := heap_alloc_last w (Obj.cells #[.int .i64 z.kind, .int .i64 z.cents, .int .i64 z.seq, .string z.swho, .int .i64 z.sseq, .int .i64 z.szone, .int .i64 z.shour, .bool z.sbuy, .int .i64 z.sqty, .int .i64 z.sprice, .string z.bwho, .int .i64 z.bseq, .int .i64 z.bzone, .bool z.bbuy, .int .i64 z.bprice, z.qv, .int .i64 z.parent, .int .i64 z.group] 28)
  have hBl : B < w.heap.size := World.block_lt_of_cell? w _ hB
  have hB1 := (b1.cell (p := ⟨B, 0, none⟩) hBl).trans hB
  have hP := fun W => parentOf_any z W
  unfold kbC at hP ⊢
  generalize parK z = P at *
  have hn : w.heap.size < (w.alloc (Obj.cells #[.int .i64 z.kind, .int .i64 z.cents, .int .i64 z.seq, .string z.swho, .int .i64 z.sseq, .int .i64 z.szone, .int .i64 z.shour, .bool z.sbuy, .int .i64 z.sqty, .int .i64 z.sprice, .string z.bwho, .int .i64 z.bseq, .int .i64 z.bzone, .bool z.bbuy, .int .i64 z.bprice, z.qv, .int .i64 z.parent, .int .i64 z.group] 28)).heap.size := lt_of_block gn
  go_enter Try.func89, Try.ntmps89
  go_wp2_with fail
  generalize w.alloc (Obj.cells #[.int .i64 z.kind, .int .i64 z.cents, .int .i64 z.seq, .string z.swho, .int .i64 z.sseq, .int .i64 z.szone, .int .i64 z.shour, .bool z.sbuy, .int .i64 z.sqty, .int .i64 z.sprice, .string z.bwho, .int .i64 z.bseq, .int .i64 z.bzone, .bool z.bbuy, .int .i64 z.bprice, z.qv, .int .i64 z.parent, .int .i64 z.group] 28) = W at *
  generalize hnn : w.heap.size = n at *
  have HN := hid hnn
  clear hnn
  have hK : ∀ X, Below W.heap.size W X → (X.cell? ⟨n, 0, none⟩ = some (.int .i64 z.kind) ∧ X.cell? ⟨n, 1, none⟩ = some (.int .i64 z.cents) ∧ X.cell? ⟨n, 2, none⟩ = some (.int .i64 z.seq) ∧ X.cell? ⟨n, 3, none⟩ = some (.string z.swho) ∧ X.cell? ⟨n, 4, none⟩ = some (.int .i64 z.sseq) ∧ X.cell? ⟨n, 5, none⟩ = some (.int .i64 z.szone) ∧ X.cell? ⟨n, 6, none⟩ = some (.int .i64 z.shour) ∧ X.cell? ⟨n, 7, none⟩ = some (.bool z.sbuy) ∧ X.cell? ⟨n, 8, none⟩ = some (.int .i64 z.sqty) ∧ X.cell? ⟨n, 9, none⟩ = some (.int .i64 z.sprice) ∧ X.cell? ⟨n, 10, none⟩ = some (.string z.bwho) ∧ X.cell? ⟨n, 11, none⟩ = some (.int .i64 z.bseq) ∧ X.cell? ⟨n, 12, none⟩ = some (.int .i64 z.bzone) ∧ X.cell? ⟨n, 13, none⟩ = some (.bool z.bbuy) ∧ X.cell? ⟨n, 14, none⟩ = some (.int .i64 z.bprice) ∧ X.cell? ⟨n, 15, none⟩ = some (z.qv) ∧ X.cell? ⟨n, 16, none⟩ = some (.int .i64 z.parent) ∧ X.cell? ⟨n, 17, none⟩ = some (.int .i64 z.group) ∧ X.cell? ⟨B, 0, none⟩ = some (.int .i64 s)) := fun X k => by
    have g := blk_below gn k
    exact ⟨blk_cell g 0 (.int .i64 z.kind) rfl, blk_cell g 1 (.int .i64 z.cents) rfl, blk_cell g 2 (.int .i64 z.seq) rfl, blk_cell g 3 (.string z.swho) rfl, blk_cell g 4 (.int .i64 z.sseq) rfl, blk_cell g 5 (.int .i64 z.szone) rfl, blk_cell g 6 (.int .i64 z.shour) rfl, blk_cell g 7 (.bool z.sbuy) rfl, blk_cell g 8 (.int .i64 z.sqty) rfl, blk_cell g 9 (.int .i64 z.sprice) rfl, blk_cell g 10 (.string z.bwho) rfl, blk_cell g 11 (.int .i64 z.bseq) rfl, blk_cell g 12 (.int .i64 z.bzone) rfl, blk_cell g 13 (.bool z.bbuy) rfl, blk_cell g 14 (.int .i64 z.bprice) rfl, blk_cell g 15 (z.qv) rfl, blk_cell g 16 (.int .i64 z.parent) rfl, blk_cell g 17 (.int .i64 z.group) rfl, (k.cell (p := ⟨B, 0, none⟩) (by show B < _; omega)).trans hB1⟩
  have B0 : Below W.heap.size W W.drew := below_drew1 W
  clear gn hB1
  go_region_held3 (fun X => X.cell? ⟨n, 0, none⟩ = some (.int .i64 z.kind) ∧ X.cell? ⟨n, 1, none⟩ = some (.int .i64 z.cents) ∧ X.cell? ⟨n, 2, none⟩ = some (.int .i64 z.seq) ∧ X.cell? ⟨n, 3, none⟩ = some (.string z.swho) ∧ X.cell? ⟨n, 4, none⟩ = some (.int .i64 z.sseq) ∧ X.cell? ⟨n, 5, none⟩ = some (.int .i64 z.szone) ∧ X.cell? ⟨n, 6, none⟩ = some (.int .i64 z.shour) ∧ X.cell? ⟨n, 7, none⟩ = some (.bool z.sbuy) ∧ X.cell? ⟨n, 8, none⟩ = some (.int .i64 z.sqty) ∧ X.cell? ⟨n, 9, none⟩ = some (.int .i64 z.sprice) ∧ X.cell? ⟨n, 10, none⟩ = some (.string z.bwho) ∧ X.cell? ⟨n, 11, none⟩ = some (.int .i64 z.bseq) ∧ X.cell? ⟨n, 12, none⟩ = some (.int .i64 z.bzone) ∧ X.cell? ⟨n, 13, none⟩ = some (.bool z.bbuy) ∧ X.cell? ⟨n, 14, none⟩ = some (.int .i64 z.bprice) ∧ X.cell? ⟨n, 15, none⟩ = some (z.qv) ∧ X.cell? ⟨n, 16, none⟩ = some (.int .i64 z.parent) ∧ X.cell? ⟨n, 17, none⟩ = some (.int .i64 z.group) ∧ X.cell? ⟨B, 0, none⟩ = some (.int .i64 s)) (first | exact hK _ B1 | exact hK _ B0) ((go_at_call 65; refine (hP _).mono ?_; rintro e X1 ⟨rfl, bb⟩; have B1 := chain2 B0 bb))
  go_wp2
  go_ret
  exact ⟨rfl, by rw [HN.out]; exact b1.trans (B1.mono (by omega))⟩
set_option maxHeartbeats 6400000 in
theorem indexAsk_any (w : World) (base : Nat) (r : Value) (who : ByteArray) (R : List (Od × Value)) (hR : OrdRow w base r who R) (s : Int) (B : Nat) (hB : w.cell? ⟨B, 0, none⟩ = some (.int .i64 s)) :
    Calls Try.prog 97 #[r, .func (.func 89) #[] #[.pointer (some ⟨B, 0, none⟩)]] w fun e w' => (∃ i : Int, e = .returned (.int .i64 i) ∧ decide (0 ≤ i) = R.any (fun p => p.1.parent == s)) ∧ Below w.heap.size w w' := by
  have eg : ∀ args w, (callFunc 89 args).run Try.prog w = .ok (.enter 89 args) w := enters_of Try.func89 (by kernel_rfl) rfl
  have hBl : B < w.heap.size := World.block_lt_of_cell? w _ hB
  obtain ⟨ra, rc, rfl⟩ := hR.slice
  have hcap := hR.cap
  have HR := hid hR
  clear hR
  go_enter Try.func97, Try.ntmps97
  go_wp2
  go_loopw [8] (fun i wr => ∃ k : Nat, k ≤ R.length ∧ i = .int .i64 (k : Int) ∧ Hid ((R.take k).any (fun p => p.1.parent == s) = false) ∧ Below w.heap.size w wr) (fun i _ => R.length - (intOf i).toNat)
  case atStart => exact ⟨0, Nat.zero_le _, rfl, by simp [Hid], Below.refl _ _⟩
  case round =>
    obtain ⟨k, hk, rfl, HA, bw⟩ := hrel
    by_cases hlt : k < R.length
    · have hBr := (bw.cell (p := ⟨B, 0, none⟩) hBl).trans hB
      obtain ⟨g, c', e1, hg1, hg2, hg3, hg4, hat⟩ := (HR.out.below bw).at k hlt
      have hfo := HR.out.form _ (List.getElem_mem hlt)
      have hfi := (HR.out.below bw).fit _ (List.getElem_mem hlt)
      simp only [Value.slice.injEq] at e1
      obtain ⟨rfl, _, rfl⟩ := e1
      rw [← odK_C] at hat
      have hzk := odK_kind who (R[k]).2 (R[k]).1
      have hzo := odK_O who (R[k]).2 (R[k]).1
      have hqv : ∃ a n c, (odK who (R[k]).2 (R[k]).1).qv = .slice a n c := by
        generalize R[k] = p at *
        obtain ⟨o, qv⟩ := p
        cases o with
        | step => exact ⟨_, _, _, rfl⟩
        | block => exact hfo
      have hin : Ints wr (odK who (R[k]).2 (R[k]).1).qv (odK who (R[k]).2 (R[k]).1).Q := by
        generalize R[k] = p at *
        obtain ⟨o, qv⟩ := p
        cases o with
        | step => exact Row1.nil _
        | block => exact hfi.1
      have hk23 : (odK who (R[k]).2 (R[k]).1).kind = 2 ∨ (odK who (R[k]).2 (R[k]).1).kind = 3 := by
        generalize R[k] = p at *
        obtain ⟨o, qv⟩ := p
        cases o with
        | step => exact Or.inl rfl
        | block => exact Or.inr rfl
      have hpar : (R[k]).1.parent = parK (odK who (R[k]).2 (R[k]).1) := by rw [← parK_O hk23, hzo]
      have HSU := hid (show (R.take (k + 1)).any (fun p => p.1.parent == s) = ((R.take k).any (fun p => p.1.parent == s) || (parK (odK who (R[k]).2 (R[k]).1) == s)) by
        rw [List.take_succ_eq_append_getElem hlt, List.any_append]
        simp [hpar])
      have HALL := hid (fun (h : (R[k]).1.parent = s) => show R.any (fun p => p.1.parent == s) = true from List.any_eq_true.2 ⟨R[k], List.getElem_mem hlt, by simpa using h⟩)
      rw [hpar] at HALL
      generalize odK who (R[k]).2 (R[k]).1 = z at *
      have a0 : wr.cell? ⟨g, k * 18, none⟩ = some (.int .i64 z.kind) := hat 0 (.int .i64 z.kind) rfl
      have a1 : wr.cell? ⟨g, k * 18 + 1, none⟩ = some (.int .i64 z.cents) := hat 1 (.int .i64 z.cents) rfl
      have a2 : wr.cell? ⟨g, k * 18 + 2, none⟩ = some (.int .i64 z.seq) := hat 2 (.int .i64 z.seq) rfl
      have a3 : wr.cell? ⟨g, k * 18 + 3, none⟩ = some (.string z.swho) := hat 3 (.string z.swho) rfl
      have a4 : wr.cell? ⟨g, k * 18 + 4, none⟩ = some (.int .i64 z.sseq) := hat 4 (.int .i64 z.sseq) rfl
      have a5 : wr.cell? ⟨g, k * 18 + 5, none⟩ = some (.int .i64 z.szone) := hat 5 (.int .i64 z.szone) rfl
      have a6 : wr.cell? ⟨g, k * 18 + 6, none⟩ = some (.int .i64 z.shour) := hat 6 (.int .i64 z.shour) rfl
      have a7 : wr.cell? ⟨g, k * 18 + 7, none⟩ = some (.bool z.sbuy) := hat 7 (.bool z.sbuy) rfl
      have a8 : wr.cell? ⟨g, k * 18 + 8, none⟩ = some (.int .i64 z.sqty) := hat 8 (.int .i64 z.sqty) rfl
      have a9 : wr.cell? ⟨g, k * 18 + 9, none⟩ = some (.int .i64 z.sprice) := hat 9 (.int .i64 z.sprice) rfl
      have a10 : wr.cell? ⟨g, k * 18 + 10, none⟩ = some (.string z.bwho) := hat 10 (.string z.bwho) rfl
      have a11 : wr.cell? ⟨g, k * 18 + 11, none⟩ = some (.int .i64 z.bseq) := hat 11 (.int .i64 z.bseq) rfl
      have a12 : wr.cell? ⟨g, k * 18 + 12, none⟩ = some (.int .i64 z.bzone) := hat 12 (.int .i64 z.bzone) rfl
      have a13 : wr.cell? ⟨g, k * 18 + 13, none⟩ = some (.bool z.bbuy) := hat 13 (.bool z.bbuy) rfl
      have a14 : wr.cell? ⟨g, k * 18 + 14, none⟩ = some (.int .i64 z.bprice) := hat 14 (.int .i64 z.bprice) rfl
      have a15 : wr.cell? ⟨g, k * 18 + 15, none⟩ = some (z.qv) := hat 15 (z.qv) rfl
      have a16 : wr.cell? ⟨g, k * 18 + 16, none⟩ = some (.int .i64 z.parent) := hat 16 (.int .i64 z.parent) rfl
      have a17 : wr.cell? ⟨g, k * 18 + 17, none⟩ = some (.int .i64 z.group) := hat 17 (.int .i64 z.group) rfl
      have hC := isParent1_any z s B wr hBr
      unfold kbC at hC
      obtain ⟨qa, qn, qc, hq0⟩ := hqv
      rw [hq0] at a15 hC
      clear hat hzk hzo hfi hfo hpar hin
      by_cases hps : parK z = s
      · have hb' : (parK z == s) = true := by simpa using hps
        rw [hb'] at hC
        have HAL := hid (HALL.out hps)
        clear HSU HALL hps
        go_wp2_with fail
        refine hC.mono ?_
        rintro e X1 ⟨rfl, b2⟩
        clear a0 a1 a2 a3 a4 a5 a6 a7 a8 a9 a10 a11 a12 a13 a14 a15 a16 a17
        go_wp2
        go_ret
        exact ⟨⟨(k : Int), rfl, by rw [HAL.out]; simp⟩, chain2 bw b2⟩
      · have hb' : (parK z == s) = false := by simpa using hps
        rw [hb'] at hC
        have HNX := hid (show (R.take (k + 1)).any (fun p => p.1.parent == s) = false by rw [HSU.out, HA.out, hb']; rfl)
        clear HSU HALL hps HA
        go_wp2_with fail
        refine hC.mono ?_
        rintro e X1 ⟨rfl, b2⟩
        clear a0 a1 a2 a3 a4 a5 a6 a7 a8 a9 a10 a11 a12 a13 a14 a15 a16 a17
        go_wp2
        go_roundw
        case rel => exact ⟨k + 1, by omega, by go_num, HNX, chain2 bw b2⟩
        case measure => simp [intOf]; omega
    · have hkl : k = R.length := by omega
      have HF := hid (show R.any (fun p => p.1.parent == s) = false by have := HA.out; rw [hkl, List.take_length] at this; exact this)
      clear HA hkl
      go_wp2
      go_ret
      exact ⟨⟨-1, rfl, by rw [HF.out]; rfl⟩, bw⟩
set_option maxHeartbeats 1600000 in
theorem containsAsk_any (w : World) (base : Nat) (r : Value) (who : ByteArray) (R : List (Od × Value)) (hR : OrdRow w base r who R) (s : Int) (B : Nat) (hB : w.cell? ⟨B, 0, none⟩ = some (.int .i64 s)) :
    Calls Try.prog 88 #[r, .func (.func 89) #[] #[.pointer (some ⟨B, 0, none⟩)]] w fun e w' => e = .returned (.bool (R.any (fun p => p.1.parent == s))) ∧ Below w.heap.size w w' := by
  have hI := indexAsk_any w base r who R hR s B hB
  obtain ⟨ra, rc, rfl⟩ := hR.slice
  generalize R.any (fun p => p.1.parent == s) = A at *
  clear hR hB
  go_enter Try.func88, Try.ntmps88
  go_wp2_with fail
  refine hI.mono ?_
  rintro e w1 ⟨⟨i, rfl, hi⟩, b1⟩
  clear hI
  subst hi
  go_wp2
  all_goals
    go_ret
    exact ⟨by simp_all, b1⟩
/-- Is s the Parent of an order that lives? -/
def isPar (p : Ps) (s : Int) : Bool := decide (0 < s) && p.orders.any (fun o => o.parent == s)
set_option maxHeartbeats 1600000 in
theorem isParent_any {O : Nat → Prop} {w : World} {v : Value} {N : List ByteArray} {S : ByteArray → Ps} (h : Bk O w v N S) (who : ByteArray) (hw : who.size ≤ 1099511627776) (s : Int) :
    Calls Try.prog 64 #[v, .string who, .int .i64 s] w fun e w' => e = .returned (.bool (isPar (S who) s)) ∧ Below w.heap.size w w' := by
  have b1 := (Below.refl w.heap.size w).alloc (Nat.le_refl _) (Obj.cells #[.int .i64 s] 3)
  have gn := heap_alloc_last w (Obj.cells #[.int .i64 s] 3)
  have c0 := blk_cell gn 0 (.int .i64 s) rfl
  by_cases h0 : 0 < s
  · have hO := ordersOf_any (h.below b1) who hw
    have he : isPar (S who) s = (S who).orders.any (fun o => o.parent == s) := by unfold isPar; simp [h0]
    rw [he]
    generalize hLO : (S who).orders.any (fun o => o.parent == s) = A at *
    have HLO := hid hLO
    clear h he hLO
    go_enter Try.func64, Try.ntmps64
    go_wp2_with fail
    have hn : w.heap.size < (w.alloc (Obj.cells #[.int .i64 s] 3)).heap.size := lt_of_block gn
    generalize w.alloc (Obj.cells #[.int .i64 s] 3) = W1 at *
    refine hO.mono ?_
    rintro e w2 ⟨r, R, rfl, hR, hRL, b2⟩
    have c2 := (b2.cell (p := ⟨w.heap.size, 0, none⟩) hn).trans c0
    have hC := containsAsk_any w2 _ r who R hR s w.heap.size c2
    have hA : R.any (fun p => p.1.parent == s) = A := by rw [← HLO.out, ← hRL, List.any_map]; rfl
    rw [hA] at hC
    clear hRL hA hO hR
    go_wp2_with fail
    refine hC.mono ?_
    rintro e w3 ⟨rfl, b3⟩
    go_wp2
    go_ret
    exact ⟨rfl, chain2 b1 (chain2 b2 b3)⟩
  · have h0' : decide (0 < s) = false := by simpa using h0
    have he : isPar (S who) s = false := by unfold isPar; simp [h0]
    rw [he]
    clear h he
    go_enter Try.func64, Try.ntmps64
    go_wp2
    go_ret
    exact ⟨rfl, b1⟩
/-- What Cancel answers. -/
def canE (p : Ps) (s : Int) : Int := match p.live s with | none => 102 | some _ => if isPar p s = true then 103 else 0
set_option maxHeartbeats 1600000 in
theorem mayCancel_any {O : Nat → Prop} {w : World} {v : Value} {N : List ByteArray} {S : ByteArray → Ps} (h : Bk O w v N S) (who : ByteArray) (hw : who.size ≤ 1099511627776) (s : Int) (hs : In64 s) :
    Calls Try.prog 48 #[v, .string who, .int .i64 s] w fun e w' => e = .returned (.int .i64 (canE (S who) s)) ∧ Below w.heap.size w w' := by
  cases hq : (S who).live s with
  | none =>
    have he : canE (S who) s = 102 := by unfold canE; rw [hq]
    rw [he]
    exact mayCancel_none h who hw s hs hq
  | some o =>
    have he : canE (S who) s = if isPar (S who) s = true then 103 else 0 := by unfold canE; rw [hq]
    rw [he]
    have hbk := h
    obtain ⟨C, bb, lb, ab, el, ea, cl, ca, rfl, hb⟩ := h
    rcases hb.order who s hw hs with ⟨hno, _⟩ | ⟨o', qv, ho, hfit, hl⟩
    · rw [hno] at hq; cases hq
    · replace hl := hl w rfl
      have c0 := hb.cell0
      have hqv : ∃ a n c, (odK who qv o').qv = .slice a n c := by
        cases o' with
        | step => exact ⟨_, _, _, rfl⟩
        | block => obtain ⟨a, c, e, _⟩ := Ints.slice hfit.1; exact ⟨a, _, c, e⟩
      rw [← odK_C] at hl
      generalize odK who qv o' = z at *
      obtain ⟨qa, qn, qc, hq0⟩ := hqv
      unfold kbC at hl
      rw [hq0] at hl
      have b1 := (Below.refl w.heap.size w).alloc (Nat.le_refl _) (Obj.cells #[.int .i64 z.kind, .int .i64 z.cents, .int .i64 z.seq, .string z.swho, .int .i64 z.sseq, .int .i64 z.szone, .int .i64 z.shour, .bool z.sbuy, .int .i64 z.sqty, .int .i64 z.sprice, .string z.bwho, .int .i64 z.bseq, .int .i64 z.bzone, .bool z.bbuy, .int .i64 z.bprice, .slice qa qn qc, .int .i64 z.parent, .int .i64 z.group] 28)
      have hI := isParent_any (hbk.below b1) who hw s
      generalize isPar (S who) s = A at *
      clear hb ho hfit hq he hq0 hbk
      go_enter Try.func48, Try.ntmps48
      go_wp2_with (first | (refine wpList_store_new rfl 28 _ _ rfl _ _ _ rfl (by simp) rfl 18 info_Ask (by rfl) (by rfl) (by simp [Value.oneCell']) ?_) | fail)
      refine hI.mono ?_
      rintro e w2 ⟨rfl, b2⟩
      cases A
      · go_wp2
        go_ret
        exact ⟨by simp, chain2 b1 b2⟩
      · go_wp2
        go_ret
        exact ⟨by simp, chain2 b1 b2⟩
end Go.Proofs.Ytbkobimbdiogfaa
