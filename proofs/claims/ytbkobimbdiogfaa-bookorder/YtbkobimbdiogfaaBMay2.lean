/- book: what is asked of a participant's orders. -/
import Derived.Test.YtbkobimbdiogfaaBOrders
namespace Go.Proofs.Ytbkobimbdiogfaa
open Go.RowKit Go.MapKept
set_option linter.unusedVariables false
set_option maxRecDepth 100000
set_option linter.unusedSimpArgs false

def cntO (L : List Od) (k : Int) : Nat := L.countP fun o => decide (o.kind = k)
theorem cntO_succ (L : List Od) (kd : Int) (k : Nat) (h : k < L.length) : cntO (L.take (k + 1)) kd = cntO (L.take k) kd + if (L[k]).kind = kd then 1 else 0 := by
  unfold cntO
  rw [List.take_succ_eq_append_getElem h, List.countP_append]
  congr 1
  simp [List.countP_cons]
def owesW (L : List Od) : Int := L.foldl (fun a o => wrap64 (a + o.cost)) 0
theorem owesW_succ (L : List Od) (k : Nat) (h : k < L.length) : owesW (L.take (k + 1)) = wrap64 (owesW (L.take k) + (L[k]).cost) := by
  unfold owesW
  rw [List.take_succ_eq_append_getElem h, List.foldl_append]; rfl
theorem orders_len {p : Ps} (h : Sane p) : p.orders.length ≤ 24 := by
  have h1 := List.length_filterMap_le p.live p.seqs
  have := h.many
  have := h.asks
  unfold Ps.orders
  omega
set_option maxHeartbeats 6400000 in
theorem count_any {O : Nat → Prop} {w : World} {v : Value} {N : List ByteArray} {S : ByteArray → Ps} (h : Bk O w v N S) (who : ByteArray) (hw : who.size ≤ 1099511627776) (kd : Int) :
    Calls Try.prog 67 #[v, .string who, .int .i64 kd] w fun e w' => e = .returned (.int .i64 ((cntO (S who).orders kd : Nat) : Int)) ∧ Below w.heap.size w w' := by
  have hsm := orders_len (h.sane who)
  generalize hLO : (S who).orders = L at *
  go_enter Try.func67, Try.ntmps67
  go_wp2_with fail
  refine (ordersOf_any h who hw).mono ?_
  rintro e w1 ⟨r, R, rfl, hR, hRL, b1⟩
  rw [hLO] at hRL
  obtain ⟨ra, rc, rfl⟩ := hR.slice
  have hcap := hR.cap
  have hlen : R.length = L.length := by rw [← hRL]; simp
  have HRL := hid hRL
  have HR := hid hR
  clear hR hRL h hLO
  have hrl : R.length ≤ 24 := by omega
  go_wp2
  go_loopw [7, 14] (fun n i wr => ∃ k : Nat, k ≤ R.length ∧ i = .int .i64 (k : Int) ∧ n = .int .i64 ((cntO (L.take k) kd : Nat) : Int) ∧ Below w1.heap.size w1 wr) (fun _ i _ => R.length - (intOf i).toNat)
  case atStart => exact ⟨0, Nat.zero_le _, rfl, rfl, Below.refl _ _⟩
  case round =>
    obtain ⟨k, hk, rfl, rfl, bw⟩ := hrel
    by_cases hlt : k < R.length
    · have hkl : k < L.length := by omega
      have hsucc := cntO_succ L kd k hkl
      have hLk : L[k] = (R[k]).1 := by
        have := HRL.out
        subst this
        simp
      have hc24 : cntO (L.take k) kd ≤ 24 := Nat.le_trans List.countP_le_length (by simp; omega)
      obtain ⟨g, c', e1, hg1, hg2, hg3, hg4, hat⟩ := (HR.out.below bw).at k hlt
      have hfo := HR.out.form _ (List.getElem_mem hlt)
      have hfi := (HR.out.below bw).fit _ (List.getElem_mem hlt)
      simp only [Value.slice.injEq] at e1
      obtain ⟨rfl, _, rfl⟩ := e1
      rw [← odK_C] at hat
      have hzk := odK_kind who (R[k]).2 (R[k]).1
      have hzo := odK_O who (R[k]).2 (R[k]).1
      have hqv : ∃ a n c, (odK who (R[k]).2 (R[k]).1).qv = .slice a n c := by
        generalize R[k] = p at *
        obtain ⟨o, qv⟩ := p
        cases o with
        | step => exact ⟨_, _, _, rfl⟩
        | block => exact hfo
      have hin : Ints wr (odK who (R[k]).2 (R[k]).1).qv (odK who (R[k]).2 (R[k]).1).Q := by
        generalize R[k] = p at *
        obtain ⟨o, qv⟩ := p
        cases o with
        | step => exact Row1.nil _
        | block => exact hfi.1
      have hk23 : (odK who (R[k]).2 (R[k]).1).kind = 2 ∨ (odK who (R[k]).2 (R[k]).1).kind = 3 := by
        generalize R[k] = p at *
        obtain ⟨o, qv⟩ := p
        cases o with
        | step => exact Or.inl rfl
        | block => exact Or.inr rfl
      rw [hLk, ← hzk] at hsucc
      generalize odK who (R[k]).2 (R[k]).1 = z at *
      have a0 : wr.cell? ⟨g, k * 18, none⟩ = some (.int .i64 z.kind) := hat 0 (.int .i64 z.kind) rfl
      have a1 : wr.cell? ⟨g, k * 18 + 1, none⟩ = some (.int .i64 z.cents) := hat 1 (.int .i64 z.cents) rfl
      have a2 : wr.cell? ⟨g, k * 18 + 2, none⟩ = some (.int .i64 z.seq) := hat 2 (.int .i64 z.seq) rfl
      have a3 : wr.cell? ⟨g, k * 18 + 3, none⟩ = some (.string z.swho) := hat 3 (.string z.swho) rfl
      have a4 : wr.cell? ⟨g, k * 18 + 4, none⟩ = some (.int .i64 z.sseq) := hat 4 (.int .i64 z.sseq) rfl
      have a5 : wr.cell? ⟨g, k * 18 + 5, none⟩ = some (.int .i64 z.szone) := hat 5 (.int .i64 z.szone) rfl
      have a6 : wr.cell? ⟨g, k * 18 + 6, none⟩ = some (.int .i64 z.shour) := hat 6 (.int .i64 z.shour) rfl
      have a7 : wr.cell? ⟨g, k * 18 + 7, none⟩ = some (.bool z.sbuy) := hat 7 (.bool z.sbuy) rfl
      have a8 : wr.cell? ⟨g, k * 18 + 8, none⟩ = some (.int .i64 z.sqty) := hat 8 (.int .i64 z.sqty) rfl
      have a9 : wr.cell? ⟨g, k * 18 + 9, none⟩ = some (.int .i64 z.sprice) := hat 9 (.int .i64 z.sprice) rfl
      have a10 : wr.cell? ⟨g, k * 18 + 10, none⟩ = some (.string z.bwho) := hat 10 (.string z.bwho) rfl
      have a11 : wr.cell? ⟨g, k * 18 + 11, none⟩ = some (.int .i64 z.bseq) := hat 11 (.int .i64 z.bseq) rfl
      have a12 : wr.cell? ⟨g, k * 18 + 12, none⟩ = some (.int .i64 z.bzone) := hat 12 (.int .i64 z.bzone) rfl
      have a13 : wr.cell? ⟨g, k * 18 + 13, none⟩ = some (.bool z.bbuy) := hat 13 (.bool z.bbuy) rfl
      have a14 : wr.cell? ⟨g, k * 18 + 14, none⟩ = some (.int .i64 z.bprice) := hat 14 (.int .i64 z.bprice) rfl
      have a15 : wr.cell? ⟨g, k * 18 + 15, none⟩ = some (z.qv) := hat 15 (z.qv) rfl
      have a16 : wr.cell? ⟨g, k * 18 + 16, none⟩ = some (.int .i64 z.parent) := hat 16 (.int .i64 z.parent) rfl
      have a17 : wr.cell? ⟨g, k * 18 + 17, none⟩ = some (.int .i64 z.group) := hat 17 (.int .i64 z.group) rfl
      obtain ⟨qa, qn, qc, hq0⟩ := hqv
      rw [hq0] at a15
      have HSU := hid hsucc
      clear hat hsucc hzk hzo hin hfi hfo hLk hkl
      generalize cntO (L.take k) kd = c at *
      have bn := (Below.refl wr.heap.size wr).alloc (Nat.le_refl _) (Obj.cells #[.int .i64 z.kind, .int .i64 z.cents, .int .i64 z.seq, .string z.swho, .int .i64 z.sseq, .int .i64 z.szone, .int .i64 z.shour, .bool z.sbuy, .int .i64 z.sqty, .int .i64 z.sprice, .string z.bwho, .int .i64 z.bseq, .int .i64 z.bzone, .bool z.bbuy, .int .i64 z.bprice, .slice qa qn qc, .int .i64 z.parent, .int .i64 z.group] 28)
      by_cases hkd : z.kind = kd
      · have HS2 := HSU.out
        rw [if_pos hkd] at HS2
        have HS2 := hid HS2
        have hkd' : (z.kind == kd) = true := by simpa using hkd
        generalize z.kind = zk at *
        go_wp2_with (refine wpList_store_new rfl 28 _ _ rfl _ _ _ rfl (by simp) rfl 18 info_Ask (by rfl) (by rfl) (by simp [Value.oneCell']) ?_)
        go_roundw
        case rel => exact ⟨k + 1, by omega, by go_num, by rw [HS2.out]; go_num, chain2 bw ((Below.refl wr.heap.size wr).alloc (Nat.le_refl _) _)⟩
        case measure => simp [intOf]; omega
      · have HS2 := HSU.out
        rw [if_neg hkd] at HS2
        have HS2 := hid HS2
        have hkd' : (z.kind == kd) = false := by simpa using hkd
        generalize z.kind = zk at *
        go_wp2_with (refine wpList_store_new rfl 28 _ _ rfl _ _ _ rfl (by simp) rfl 18 info_Ask (by rfl) (by rfl) (by simp [Value.oneCell']) ?_)
        go_roundw
        case rel => exact ⟨k + 1, by omega, by go_num, by rw [HS2.out]; rfl, chain2 bw bn⟩
        case measure => simp [intOf]; omega
    · have hkl : k = L.length := by omega
      have hfin : cntO (L.take k) kd = cntO L kd := by rw [hkl, List.take_length]
      rw [hfin]
      go_wp2
      go_ret
      exact ⟨rfl, chain2 b1 bw⟩
set_option maxHeartbeats 6400000 in
theorem owes_any {O : Nat → Prop} {w : World} {v : Value} {N : List ByteArray} {S : ByteArray → Ps} (h : Bk O w v N S) (who : ByteArray) (hw : who.size ≤ 1099511627776) :
    Calls Try.prog 21 #[v, .string who] w fun e w' => e = .returned (.int .i64 (owesW (S who).orders)) ∧ Below w.heap.size w w' := by
  have hsm := orders_len (h.sane who)
  generalize hLO : (S who).orders = L at *
  go_enter Try.func21, Try.ntmps21
  go_wp2_with fail
  refine (ordersOf_any h who hw).mono ?_
  rintro e w1 ⟨r, R, rfl, hR, hRL, b1⟩
  rw [hLO] at hRL
  obtain ⟨ra, rc, rfl⟩ := hR.slice
  have hcap := hR.cap
  have hlen : R.length = L.length := by rw [← hRL]; simp
  have HRL := hid hRL
  have HR := hid hR
  clear hR hRL h hLO
  have hrl : R.length ≤ 24 := by omega
  go_wp2
  go_loopw [5, 12] (fun n i wr => ∃ k : Nat, k ≤ R.length ∧ i = .int .i64 (k : Int) ∧ n = .int .i64 (owesW (L.take k)) ∧ Below w1.heap.size w1 wr) (fun _ i _ => R.length - (intOf i).toNat)
  case atStart => exact ⟨0, Nat.zero_le _, rfl, rfl, Below.refl _ _⟩
  case round =>
    obtain ⟨k, hk, rfl, rfl, bw⟩ := hrel
    by_cases hlt : k < R.length
    · have hkl : k < L.length := by omega
      have hsucc := owesW_succ L k hkl
      have hLk : L[k] = (R[k]).1 := by
        have := HRL.out
        subst this
        simp
      obtain ⟨g, c', e1, hg1, hg2, hg3, hg4, hat⟩ := (HR.out.below bw).at k hlt
      have hfo := HR.out.form _ (List.getElem_mem hlt)
      have hfi := (HR.out.below bw).fit _ (List.getElem_mem hlt)
      simp only [Value.slice.injEq] at e1
      obtain ⟨rfl, _, rfl⟩ := e1
      rw [← odK_C] at hat
      have hzk := odK_kind who (R[k]).2 (R[k]).1
      have hzo := odK_O who (R[k]).2 (R[k]).1
      have hqv : ∃ a n c, (odK who (R[k]).2 (R[k]).1).qv = .slice a n c := by
        generalize R[k] = p at *
        obtain ⟨o, qv⟩ := p
        cases o with
        | step => exact ⟨_, _, _, rfl⟩
        | block => exact hfo
      have hin : Ints wr (odK who (R[k]).2 (R[k]).1).qv (odK who (R[k]).2 (R[k]).1).Q := by
        generalize R[k] = p at *
        obtain ⟨o, qv⟩ := p
        cases o with
        | step => exact Row1.nil _
        | block => exact hfi.1
      have hk23 : (odK who (R[k]).2 (R[k]).1).kind = 2 ∨ (odK who (R[k]).2 (R[k]).1).kind = 3 := by
        generalize R[k] = p at *
        obtain ⟨o, qv⟩ := p
        cases o with
        | step => exact Or.inl rfl
        | block => exact Or.inr rfl
      rw [hLk, ← hzo] at hsucc
      generalize odK who (R[k]).2 (R[k]).1 = z at *
      have a0 : wr.cell? ⟨g, k * 18, none⟩ = some (.int .i64 z.kind) := hat 0 (.int .i64 z.kind) rfl
      have a1 : wr.cell? ⟨g, k * 18 + 1, none⟩ = some (.int .i64 z.cents) := hat 1 (.int .i64 z.cents) rfl
      have a2 : wr.cell? ⟨g, k * 18 + 2, none⟩ = some (.int .i64 z.seq) := hat 2 (.int .i64 z.seq) rfl
      have a3 : wr.cell? ⟨g, k * 18 + 3, none⟩ = some (.string z.swho) := hat 3 (.string z.swho) rfl
      have a4 : wr.cell? ⟨g, k * 18 + 4, none⟩ = some (.int .i64 z.sseq) := hat 4 (.int .i64 z.sseq) rfl
      have a5 : wr.cell? ⟨g, k * 18 + 5, none⟩ = some (.int .i64 z.szone) := hat 5 (.int .i64 z.szone) rfl
      have a6 : wr.cell? ⟨g, k * 18 + 6, none⟩ = some (.int .i64 z.shour) := hat 6 (.int .i64 z.shour) rfl
      have a7 : wr.cell? ⟨g, k * 18 + 7, none⟩ = some (.bool z.sbuy) := hat 7 (.bool z.sbuy) rfl
      have a8 : wr.cell? ⟨g, k * 18 + 8, none⟩ = some (.int .i64 z.sqty) := hat 8 (.int .i64 z.sqty) rfl
      have a9 : wr.cell? ⟨g, k * 18 + 9, none⟩ = some (.int .i64 z.sprice) := hat 9 (.int .i64 z.sprice) rfl
      have a10 : wr.cell? ⟨g, k * 18 + 10, none⟩ = some (.string z.bwho) := hat 10 (.string z.bwho) rfl
      have a11 : wr.cell? ⟨g, k * 18 + 11, none⟩ = some (.int .i64 z.bseq) := hat 11 (.int .i64 z.bseq) rfl
      have a12 : wr.cell? ⟨g, k * 18 + 12, none⟩ = some (.int .i64 z.bzone) := hat 12 (.int .i64 z.bzone) rfl
      have a13 : wr.cell? ⟨g, k * 18 + 13, none⟩ = some (.bool z.bbuy) := hat 13 (.bool z.bbuy) rfl
      have a14 : wr.cell? ⟨g, k * 18 + 14, none⟩ = some (.int .i64 z.bprice) := hat 14 (.int .i64 z.bprice) rfl
      have a15 : wr.cell? ⟨g, k * 18 + 15, none⟩ = some (z.qv) := hat 15 (z.qv) rfl
      have a16 : wr.cell? ⟨g, k * 18 + 16, none⟩ = some (.int .i64 z.parent) := hat 16 (.int .i64 z.parent) rfl
      have a17 : wr.cell? ⟨g, k * 18 + 17, none⟩ = some (.int .i64 z.group) := hat 17 (.int .i64 z.group) rfl
      obtain ⟨qa, qn, qc, hq0⟩ := hqv
      rw [hq0] at a15
      have HSU := hid hsucc
      generalize hcost : (kbO z).cost = cost at *
      clear hat hsucc hzk hzo hfi hfo hLk hkl
      generalize owesW (L.take k) = c at *
      have bn := (Below.refl wr.heap.size wr).alloc (Nat.le_refl _) (Obj.cells #[.int .i64 z.kind, .int .i64 z.cents, .int .i64 z.seq, .string z.swho, .int .i64 z.sseq, .int .i64 z.szone, .int .i64 z.shour, .bool z.sbuy, .int .i64 z.sqty, .int .i64 z.sprice, .string z.bwho, .int .i64 z.bseq, .int .i64 z.bzone, .bool z.bbuy, .int .i64 z.bprice, .slice qa qn qc, .int .i64 z.parent, .int .i64 z.group] 28)
      have gn := heap_alloc_last wr (Obj.cells #[.int .i64 z.kind, .int .i64 z.cents, .int .i64 z.seq, .string z.swho, .int .i64 z.sseq, .int .i64 z.szone, .int .i64 z.shour, .bool z.sbuy, .int .i64 z.sqty, .int .i64 z.sprice, .string z.bwho, .int .i64 z.bseq, .int .i64 z.bzone, .bool z.bbuy, .int .i64 z.bprice, .slice qa qn qc, .int .i64 z.parent, .int .i64 z.group] 28)
      have hO := owesK_any z (wr.alloc (Obj.cells #[.int .i64 z.kind, .int .i64 z.cents, .int .i64 z.seq, .string z.swho, .int .i64 z.sseq, .int .i64 z.szone, .int .i64 z.shour, .bool z.sbuy, .int .i64 z.sqty, .int .i64 z.sprice, .string z.bwho, .int .i64 z.bseq, .int .i64 z.bzone, .bool z.bbuy, .int .i64 z.bprice, .slice qa qn qc, .int .i64 z.parent, .int .i64 z.group] 28)) hk23 (Ints.below hin bn)
      rw [hcost] at hO
      unfold kbC at hO
      rw [hq0] at hO
      clear hcost hin
      go_wp2_with (first | (refine wpList_store_new rfl 28 _ _ rfl _ _ _ rfl (by simp) rfl 18 info_Ask (by rfl) (by rfl) (by simp [Value.oneCell']) ?_) | fail)
      clear a0 a1 a2 a3 a4 a5 a6 a7 a8 a9 a10 a11 a12 a13 a14 a15 a16 a17
      generalize wr.alloc (Obj.cells #[.int .i64 z.kind, .int .i64 z.cents, .int .i64 z.seq, .string z.swho, .int .i64 z.sseq, .int .i64 z.szone, .int .i64 z.shour, .bool z.sbuy, .int .i64 z.sqty, .int .i64 z.sprice, .string z.bwho, .int .i64 z.bseq, .int .i64 z.bzone, .bool z.bbuy, .int .i64 z.bprice, .slice qa qn qc, .int .i64 z.parent, .int .i64 z.group] 28) = W1 at *
      refine hO.mono ?_
      rintro e W2 ⟨rfl, b2⟩
      go_wp2
      go_roundw
      case rel => exact ⟨k + 1, by omega, by go_num, by rw [HSU.out], chain2 bw (chain2 bn b2)⟩
      case measure => simp [intOf]; omega
    · have hkl : k = L.length := by omega
      have hfin : owesW (L.take k) = owesW L := by rw [hkl, List.take_length]
      rw [hfin]
      go_wp2
      go_ret
      exact ⟨rfl, chain2 b1 bw⟩
def isBlk : Option Od → Bool | some (.block ..) => true | _ => false
theorem bsearch_any (w : World) (sv : Value) (L : List Int) (s : Int) (h : Ints w sv L) (hr : L.length ≤ 24) (hs : L.Pairwise (· < ·)) :
    Calls Try.prog 34 #[sv, .int .i64 s] w fun e w' => e = .returned (.tuple #[.int .i64 ((L.countP (· < s) : Nat) : Int), .bool (L.contains s)]) ∧ Below w.heap.size w w' := by
  obtain ⟨a, c, rfl, hlc, hcm⟩ := h.slice
  by_cases h0 : L = []
  · subst h0
    refine (Try.slices_BinarySearch_int_empty a c s w).mono ?_
    rintro e w' ⟨rfl, rfl⟩
    exact ⟨rfl, Below.refl _ _⟩
  · obtain ⟨b, off, c', e1, _⟩ := h.at 0 (by cases L with | nil => exact absurd rfl h0 | cons => simp)
    simp only [Value.slice.injEq] at e1
    obtain ⟨rfl, _, rfl⟩ := e1
    refine (Try.slices_BinarySearch_int b off L.length c L s w (Nat.le_refl _) (by omega) (fun j hj => by
      obtain ⟨b', off', c', e1, _, _, e2⟩ := h.at j hj
      simp only [Value.slice.injEq, Option.some.injEq, Addr.mk.injEq] at e1
      obtain ⟨⟨rfl, rfl, _⟩, _, rfl⟩ := e1
      rw [e2] <;> simp [hj]) (by rw [List.take_length]; exact hs.imp (fun h => by omega))).mono ?_
    rintro e w' ⟨rfl, q, rfl⟩
    rw [List.take_length]
    exact ⟨rfl, below_dn (Below.refl _ _) _⟩
set_option maxHeartbeats 1600000 in
theorem had_any {O : Nat → Prop} {w : World} {v : Value} {N : List ByteArray} {S : ByteArray → Ps} (h : Bk O w v N S) (who : ByteArray) (hw : who.size ≤ 1099511627776) (s : Int) :
    Calls Try.prog 66 #[v, .string who, .int .i64 s] w fun e w' => e = .returned (.bool ((S who).seqs.contains s)) ∧ Below w.heap.size w w' := by
  have hsane := h.sane who
  obtain ⟨C, bb, lb, ab, el, ea, cl, ca, rfl, hb⟩ := h
  obtain ⟨sv, ho, hL⟩ := hb.account who hw
  replace hL := hL w rfl
  have c1 := hb.cell1
  have hI : Ints w sv (S who).seqs := Row1.of_own (by rw [intV_len]; exact ho.1)
  have hf := field_acc2
  have hB := bsearch_any w sv (S who).seqs s hI (by have := hsane.many; have := hsane.asks; omega) hsane.rise
  generalize (S who).seqs.contains s = B at *
  generalize ((S who).seqs.countP (· < s)) = cn at *
  generalize (S who).asks = A at *
  generalize (S who).locked = L at *
  clear hb ho hI
  go_enter Try.func66, Try.ntmps66
  go_wp2_with fail
  refine hB.mono ?_
  rintro e w1 ⟨rfl, b1⟩
  go_wp2
  go_ret
  exact ⟨rfl, b1⟩
set_option maxHeartbeats 1600000 in
theorem hasBlock_any {O : Nat → Prop} {w : World} {v : Value} {N : List ByteArray} {S : ByteArray → Ps} (h : Bk O w v N S) (who : ByteArray) (hw : who.size ≤ 1099511627776) (s : Int) (hs : In64 s) :
    Calls Try.prog 69 #[v, .string who, .int .i64 s] w fun e w' => e = .returned (.bool (isBlk ((S who).live s))) ∧ Below w.heap.size w w' := by
  obtain ⟨C, bb, lb, ab, el, ea, cl, ca, rfl, hb⟩ := h
  have c0 := hb.cell0
  rcases hb.order who s hw hs with ⟨hno, hl⟩ | ⟨o, qv, ho, hfit, hl⟩
  · replace hl := hl w rfl
    unfold zeroAsk at hl
    rw [hno]
    show Calls _ _ _ _ fun e w' => e = .returned (.bool false) ∧ _
    clear hb hno
    go_enter Try.func69, Try.ntmps69
    go_wp2_with (refine wpList_store_new rfl 28 _ _ rfl _ _ _ rfl (by simp) rfl 18 info_Ask (by rfl) (by rfl) (by simp [Value.oneCell']) ?_)
    go_ret
    exact ⟨rfl, (Below.refl w.heap.size w).alloc (Nat.le_refl _) _⟩
  · replace hl := hl w rfl
    rw [ho]
    have hqv : ∃ a n c, (odK who qv o).qv = .slice a n c := by
      cases o with
      | step => exact ⟨_, _, _, rfl⟩
      | block => obtain ⟨a, c, e, _⟩ := Ints.slice hfit.1; exact ⟨a, _, c, e⟩
    have hzk := odK_kind who qv o
    rw [← odK_C] at hl
    generalize hz : odK who qv o = z at *
    obtain ⟨qa, qn, qc, hq0⟩ := hqv
    unfold kbC at hl
    rw [hq0] at hl
    cases o with
    | step =>
      have h2 : z.kind = 2 := hzk
      rw [h2] at hl
      show Calls _ _ _ _ fun e w' => e = .returned (.bool false) ∧ _
      clear hb ho hfit hz hzk hq0 h2
      go_enter Try.func69, Try.ntmps69
      go_wp2_with (refine wpList_store_new rfl 28 _ _ rfl _ _ _ rfl (by simp) rfl 18 info_Ask (by rfl) (by rfl) (by simp [Value.oneCell']) ?_)
      go_ret
      exact ⟨rfl, (Below.refl w.heap.size w).alloc (Nat.le_refl _) _⟩
    | block =>
      have h2 : z.kind = 3 := hzk
      rw [h2] at hl
      show Calls _ _ _ _ fun e w' => e = .returned (.bool true) ∧ _
      clear hb ho hfit hz hzk hq0 h2
      go_enter Try.func69, Try.ntmps69
      go_wp2_with (refine wpList_store_new rfl 28 _ _ rfl _ _ _ rfl (by simp) rfl 18 info_Ask (by rfl) (by rfl) (by simp [Value.oneCell']) ?_)
      go_ret
      exact ⟨rfl, (Below.refl w.heap.size w).alloc (Nat.le_refl _) _⟩
end Go.Proofs.Ytbkobimbdiogfaa
