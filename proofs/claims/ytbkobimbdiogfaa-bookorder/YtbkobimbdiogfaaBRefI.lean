/- BookOrder: the document's Owes. -/
import Derived.Test.YtbkobimbdiogfaaBRefH
namespace Go.Proofs.Ytbkobimbdiogfaa
open Go.RowKit Go.MapKept
set_option linter.unusedVariables false
set_option maxRecDepth 100000
set_option linter.unusedSimpArgs false

def liveAt : Option (Kb × Bool) → Option Od
  | some e => if e.2 = true then none else some (kbO e.1)
  | none => none
theorem live_fm : ∀ R : Rf, (R.filter (fun e => isOrd e.1)).filterMap (fun e => liveAt (some e)) = liveR R
  | [] => rfl
  | e :: R => by
    have ih := live_fm R
    unfold liveR at ih ⊢
    cases h1 : isOrd e.1 with
    | false =>
      have ha : alv e = false := by simp [alv, h1]
      simp only [List.filter_cons, h1, ha, Bool.false_eq_true, if_false]
      exact ih
    | true =>
      cases h2 : e.2 with
      | true =>
        have ha : alv e = false := by simp [alv, h2]
        have hl : liveAt (some e) = none := by simp [liveAt, h2]
        simp only [List.filter_cons, h1, ha, Bool.false_eq_true, if_false, if_true, List.filterMap_cons, hl]
        exact ih
      | false =>
        have ha : alv e = true := by simp [alv, h1, h2]
        have hl : liveAt (some e) = some (kbO e.1) := by simp [liveAt, h2]
        simp only [List.filter_cons, h1, ha, if_true, List.filterMap_cons, hl, List.map_cons]
        rw [ih]
theorem live_all (R : Rf) : (ordN R R.length).filterMap (fun i => liveAt R[i]?) = liveR R := by
  have h1 : (ordN R R.length).filterMap (fun i => liveAt R[i]?) = ((ordN R R.length).map (fun i => R[i]?)).filterMap liveAt := by rw [List.filterMap_map]; rfl
  rw [h1, ordN_all, List.filterMap_map]
  all_goals exact live_fm R
theorem fm_take (f : Nat → Option Od) (L : List Nat) (j : Nat) (h : j < L.length) : (L.take (j + 1)).filterMap f = (L.take j).filterMap f ++ (f L[j]).toList := by
  rw [List.take_succ_eq_append_getElem h, List.filterMap_append]
  congr 1
  all_goals (cases hf : f L[j] <;> simp [hf])
theorem owesW_app (L : List Od) (o : Od) : owesW (L ++ [o]) = wrap64 (owesW L + o.cost) := by
  unfold owesW; rw [List.foldl_append]; rfl
theorem ordN_ord {R : Rf} {j : Nat} (hj : j < (ordN R R.length).length) {i : Nat} (hi : i < R.length) (e : (ordN R R.length)[j] = i) : isOrd (R[i]).1 = true := by
  have hm : i ∈ ordN R R.length := e ▸ List.getElem_mem hj
  have := (List.mem_filter.1 hm).2
  rwa [isOrdAt_at R i hi] at this
set_option maxHeartbeats 6400000 in
theorem bkOwes_any {w : World} {bb : Nat} {who : ByteArray} {a : Option Addr} {cap : Nat} {R : Rf} (h : RB w bb who a cap R) :
    Calls Try.prog 74 #[.pointer (some ⟨bb, 0, none⟩), .string who] w fun e w' => e = .returned (.int .i64 (owesW (liveR R))) ∧ Below w.heap.size w w' := by
  have HEQ := hid (live_all R)
  generalize liveR R = LR at *
  generalize hN : owesW LR = N at *
  have HN := hid hN
  clear hN
  have hl := h.len
  have hc := h.cap_
  go_enter Try.func74, Try.ntmps74
  go_wp2_with fail
  refine (bkorders_any h).mono ?_
  rintro e w1 ⟨⟨v, rfl, hv⟩, b1⟩
  obtain ⟨va, vc, rfl, hvl, hvm⟩ := hv.slice
  unfold maxLen at hvm
  have h1 := h.below b1
  have hLl := ordIx_len R R.length
  have HV := hid hv
  have H1 := hid h1
  clear hv h1
  rw [ordIx_length] at hvl hLl
  have hlx := ordIx_length R R.length
  rw [hlx]
  go_wp2
  go_loopw [5, 7] (fun s i wr => ∃ (k : Nat) (m : Int), k ≤ (ordN R R.length).length ∧ i = .int .i64 (k : Int) ∧ s = .int .i64 m ∧ Hid (m = owesW (((ordN R R.length).take k).filterMap (fun i => liveAt R[i]?))) ∧ Below w1.heap.size w1 wr) (fun _ i _ => (ordN R R.length).length - (intOf i).toNat)
  case atStart => exact ⟨0, 0, Nat.zero_le _, rfl, rfl, rfl, Below.refl _ _⟩
  case round =>
    obtain ⟨k, m, hk, rfl, rfl, HM, b⟩ := hrel
    by_cases hlt : k < (ordN R R.length).length
    · have hR := H1.out.below b
      have c0 := blk_cell hR.blk 0 (.slice a R.length cap) rfl
      obtain ⟨i, hi, g1, o1, c1, g, ei, ev, f1, rfl, hcell⟩ := hR.ord (HV.out.below b) k hlt
      simp only [Value.slice.injEq] at ev
      obtain ⟨rfl, _, rfl⟩ := ev
      have d0 := hcell 1 (.int .i64 (R[i]).1.kind) rfl
      have d1 := hcell 2 (.int .i64 (R[i]).1.cents) rfl
      have d2 := hcell 3 (.int .i64 (R[i]).1.seq) rfl
      have d3 := hcell 4 (.string (R[i]).1.swho) rfl
      have d4 := hcell 5 (.int .i64 (R[i]).1.sseq) rfl
      have d5 := hcell 6 (.int .i64 (R[i]).1.szone) rfl
      have d6 := hcell 7 (.int .i64 (R[i]).1.shour) rfl
      have d7 := hcell 8 (.bool (R[i]).1.sbuy) rfl
      have d8 := hcell 9 (.int .i64 (R[i]).1.sqty) rfl
      have d9 := hcell 10 (.int .i64 (R[i]).1.sprice) rfl
      have d10 := hcell 11 (.string (R[i]).1.bwho) rfl
      have d11 := hcell 12 (.int .i64 (R[i]).1.bseq) rfl
      have d12 := hcell 13 (.int .i64 (R[i]).1.bzone) rfl
      have d13 := hcell 14 (.bool (R[i]).1.bbuy) rfl
      have d14 := hcell 15 (.int .i64 (R[i]).1.bprice) rfl
      have d15 := hcell 16 ((R[i]).1.qv) rfl
      have d16 := hcell 17 (.int .i64 (R[i]).1.parent) rfl
      have d17 := hcell 18 (.int .i64 (R[i]).1.group) rfl
      have d18 := hcell 19 (.bool (R[i]).2) rfl
      have hS := fm_take (fun i => liveAt R[i]?) (ordN R R.length) k hlt
      have hla : liveAt R[(ordN R R.length)[k]]? = if (R[i]).2 = true then none else some (kbO (R[i]).1) := by
        rw [ei, List.getElem?_eq_getElem hi]; rfl
      rw [hla] at hS
      have HS := hid hS
      have hfit := hR.fits R[i] (List.getElem_mem hi)
      have hord := isOrd_iff.1 (ordN_ord hlt hi ei)
      have HSQ := hid (show ∀ X, Below wr.heap.size wr X → _ from fun X bX => jowes_any (R[i]).1 X hord (hfit.ints.below bX))
      clear hcell hla hS hR ei hfit hord
      generalize (ordN R R.length).length = n at *
      generalize (R[i]).2 = G at *
      cases G with
      | true =>
        have HF := hid (show m = owesW (((ordN R R.length).take (k + 1)).filterMap (fun i => liveAt R[i]?)) by rw [HS.out, if_pos rfl, HM.out]; simp)
        clear HS
        go_wp2_with fail
        go_quiet (fail)
        go_wp2
        go_roundw
        case rel => exact ⟨k + 1, m, by omega, by go_num, rfl, HF, below_dn b _⟩
        case measure => simp [intOf]; omega
      | false =>
        have HF := hid (show wrap64 (m + (kbO (R[i]).1).cost) = owesW (((ordN R R.length).take (k + 1)).filterMap (fun i => liveAt R[i]?)) by
          rw [HS.out, if_neg (by decide)]
          show _ = owesW (_ ++ [_])
          rw [owesW_app, ← HM.out])
        clear HS HM
        go_wp2_with fail
        go_quiet (fail)
        go_wp2_with fail
        have bq : Below wr.heap.size wr (wr.drewN nq) := below_dn (Below.refl _ _) _
        have bD := below_dn b nq
        have c0' : (wr.drewN nq).cell? ⟨bb, 0, none⟩ = _ := c0
        have f1' : (wr.drewN nq).cell? ⟨g1, o1 + k, none⟩ = _ := f1
        have d0' : (wr.drewN nq).cell? ⟨g, i * 20 + 1, none⟩ = _ := d0
        have d1' : (wr.drewN nq).cell? ⟨g, i * 20 + 2, none⟩ = _ := d1
        have d2' : (wr.drewN nq).cell? ⟨g, i * 20 + 3, none⟩ = _ := d2
        have d3' : (wr.drewN nq).cell? ⟨g, i * 20 + 4, none⟩ = _ := d3
        have d4' : (wr.drewN nq).cell? ⟨g, i * 20 + 5, none⟩ = _ := d4
        have d5' : (wr.drewN nq).cell? ⟨g, i * 20 + 6, none⟩ = _ := d5
        have d6' : (wr.drewN nq).cell? ⟨g, i * 20 + 7, none⟩ = _ := d6
        have d7' : (wr.drewN nq).cell? ⟨g, i * 20 + 8, none⟩ = _ := d7
        have d8' : (wr.drewN nq).cell? ⟨g, i * 20 + 9, none⟩ = _ := d8
        have d9' : (wr.drewN nq).cell? ⟨g, i * 20 + 10, none⟩ = _ := d9
        have d10' : (wr.drewN nq).cell? ⟨g, i * 20 + 11, none⟩ = _ := d10
        have d11' : (wr.drewN nq).cell? ⟨g, i * 20 + 12, none⟩ = _ := d11
        have d12' : (wr.drewN nq).cell? ⟨g, i * 20 + 13, none⟩ = _ := d12
        have d13' : (wr.drewN nq).cell? ⟨g, i * 20 + 14, none⟩ = _ := d13
        have d14' : (wr.drewN nq).cell? ⟨g, i * 20 + 15, none⟩ = _ := d14
        have d15' : (wr.drewN nq).cell? ⟨g, i * 20 + 16, none⟩ = _ := d15
        have d16' : (wr.drewN nq).cell? ⟨g, i * 20 + 17, none⟩ = _ := d16
        have d17' : (wr.drewN nq).cell? ⟨g, i * 20 + 18, none⟩ = _ := d17
        have HSQ2 := hid (show ∀ X, Below (wr.drewN nq).heap.size (wr.drewN nq) X → _ from fun X bX => HSQ.out X (chain2 bq bX))
        clear HSQ c0 f1 d0 d1 d2 d3 d4 d5 d6 d7 d8 d9 d10 d11 d12 d13 d14 d15 d16 d17 d18 b bq
        generalize wr.drewN nq = V at *
        generalize (kbO (R[i]).1).cost = C at *
        go_region_with ((go_at_call 10; refine (HSQ2.out _ (by first | exact Below.refl _ _ | exact below_dn (Below.refl _ _) _ | exact (Below.refl _ _).drew)).mono ?_; rintro e X ⟨rfl, bX⟩))
        all_goals
          have bX' : Below V.heap.size V X := ⟨bX.os, bX.tape, bX.output, bX.size, bX.block⟩
          have bF := bD.trans (bX'.mono bD.size)
          clear bX
          go_wp2
          go_roundw
          case rel => exact ⟨k + 1, wrap64 (m + C), by omega, by go_num, by first | rfl | go_num, HF, by first | exact bF | exact below_dn bF _ | exact bF.drew⟩
          case measure => simp [intOf]; omega
    · have hkl : k = (ordN R R.length).length := by omega
      have HF := hid (show m = N by rw [HM.out, hkl, List.take_length, HEQ.out, HN.out])
      clear hkl
      go_wp2
      go_ret
      exact ⟨by rw [HF.out]; rfl, chain2 b1 b⟩
end Go.Proofs.Ytbkobimbdiogfaa
