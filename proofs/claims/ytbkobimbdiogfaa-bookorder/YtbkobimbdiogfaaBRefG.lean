/- BookOrder: the document's find. -/
import Derived.Test.YtbkobimbdiogfaaBRefF
import Derived.Deep.RegionWith
namespace Go.Proofs.Ytbkobimbdiogfaa
open Go.RowKit Go.MapKept
set_option linter.unusedVariables false
set_option maxRecDepth 100000
set_option linter.unusedSimpArgs false

def seqAt (R : Rf) (s : Int) (i : Nat) : Bool := match R[i]? with | some e => decide (seqK e.1 = s) | none => false
/-- The first order of this Seq. -/
def fndR (R : Rf) (s : Int) : Option Nat := (ordN R R.length).find? (seqAt R s)
def fndI : Option Nat → Int | some i => (i : Int) | none => -1
theorem first_hit (s : Int) : ∀ (R : Rf) (i : Nat) (hi : i < R.length), hitR s R[i] = true → (∀ j (hj : j < i), hitR s (R[j]'(by omega)) = false) → getR R s = some R[i] ∧ setG R s = R.set i ((R[i]).1, true)
  | [], i, hi, _, _ => by simp at hi
  | e :: R, 0, hi, h, _ => by
    have h' : hitR s e = true := h
    unfold getR setG
    rw [List.find?_cons, h', if_pos rfl]
    exact ⟨rfl, rfl⟩
  | e :: R, i + 1, hi, h, hn => by
    have h0 : hitR s e = false := hn 0 (by omega)
    have hi' : i < R.length := by simpa using hi
    have ih := first_hit s R i hi' (by simpa using h) (fun j hj => by have := hn (j + 1) (by omega); simpa using this)
    unfold getR setG
    rw [List.find?_cons, h0, if_neg (by decide)]
    refine ⟨?_, ?_⟩
    · have := ih.1; unfold getR at this; simpa using this
    · rw [ih.2]; simp
theorem fnd_some {R : Rf} {s : Int} {i : Nat} (h : fndR R s = some i) : ∃ hi : i < R.length, getR R s = some R[i] ∧ setG R s = R.set i ((R[i]).1, true) := by
  unfold fndR ordN at h
  rw [List.find?_filter] at h
  have hm := List.mem_of_find?_eq_some h
  have hi : i < R.length := by simpa using hm
  have hp := List.find?_some h
  have hmin := (List.find?_range_eq_some.1 h).2.2
  have key : ∀ j (hj : j < R.length), (isOrdAt R j && seqAt R s j) = hitR s R[j] := fun j hj => by
    unfold hitR seqAt
    rw [isOrdAt_at R j hj, List.getElem?_eq_getElem hj]
  refine ⟨hi, first_hit s R i hi (by rw [← key i hi]; simpa using hp) (fun j hj => ?_)⟩
  rw [← key j (by omega)]
  have hm2 := hmin j hj
  cases h1 : isOrdAt R j <;> cases h2 : seqAt R s j <;> simp_all
theorem fnd_none {R : Rf} {s : Int} (h : fndR R s = none) : getR R s = none := by
  unfold fndR ordN at h
  rw [List.find?_filter, List.find?_eq_none] at h
  unfold getR
  rw [List.find?_eq_none]
  intro e he
  obtain ⟨j, hj, rfl⟩ := List.getElem_of_mem he
  have h1 := h j (by simpa using hj)
  unfold seqAt at h1
  rw [isOrdAt_at R j hj, List.getElem?_eq_getElem hj] at h1
  unfold hitR
  simpa using h1
theorem fnd_at {R : Rf} {s : Int} (k : Nat) (hk : k < (ordN R R.length).length) (h0 : ∀ x ∈ (ordN R R.length).take k, seqAt R s x = false) (h1 : seqAt R s ((ordN R R.length)[k]) = true) : fndR R s = some ((ordN R R.length)[k]) := by
  unfold fndR
  generalize ordN R R.length = L at *
  have e : L = L.take k ++ L[k] :: L.drop (k + 1) := by rw [← List.drop_eq_getElem_cons hk, List.take_append_drop]
  generalize L[k] = x at *
  rw [e, List.find?_append, List.find?_eq_none.2 (fun y hy => by rw [h0 y hy]; decide), List.find?_cons, h1]
  rfl
set_option maxHeartbeats 3200000 in
theorem bkfind_any {w : World} {bb : Nat} {who : ByteArray} {a : Option Addr} {cap : Nat} {R : Rf} (h : RB w bb who a cap R) (s : Int) :
    Calls Try.prog 37 #[.pointer (some ⟨bb, 0, none⟩), .string who, .int .i64 s] w fun e w' => e = .returned (.int .i64 (fndI (fndR R s))) ∧ Below w.heap.size w w' := by
  have hl := h.len
  have hc := h.cap_
  have HFN := hid (fun (hh : fndR R s = none) => show fndI (fndR R s) = -1 by rw [hh]; rfl)
  have HFS := hid (fun (i : Nat) (hh : fndR R s = some i) => show fndI (fndR R s) = (i : Int) by rw [hh]; rfl)
  generalize fndI (fndR R s) = N at *
  go_enter Try.func37, Try.ntmps37
  go_wp2_with fail
  refine (bkorders_any h).mono ?_
  rintro e w1 ⟨⟨v, rfl, hv⟩, b1⟩
  obtain ⟨va, vc, rfl, hvl, hvm⟩ := hv.slice
  unfold maxLen at hvm
  have h1 := h.below b1
  have hLl := ordIx_len R R.length
  have HV := hid hv
  have H1 := hid h1
  clear hv h1
  rw [ordIx_length] at hvl hLl
  have hlx := ordIx_length R R.length
  rw [hlx]
  go_wp2
  go_loopw [8] (fun i wr => ∃ k : Nat, k ≤ (ordN R R.length).length ∧ i = .int .i64 (k : Int) ∧ Hid (∀ x ∈ (ordN R R.length).take k, seqAt R s x = false) ∧ Below w1.heap.size w1 wr) (fun i _ => (ordN R R.length).length - (intOf i).toNat)
  case atStart => exact ⟨0, Nat.zero_le _, rfl, by simp [Hid], Below.refl _ _⟩
  case round =>
    obtain ⟨k, hk, rfl, HM, b⟩ := hrel
    by_cases hlt : k < (ordN R R.length).length
    · have hR := H1.out.below b
      have c0 := blk_cell hR.blk 0 (.slice a R.length cap) rfl
      obtain ⟨i, hi, g1, o1, c1, g, ei, ev, f1, rfl, hcell⟩ := hR.ord (HV.out.below b) k hlt
      simp only [Value.slice.injEq] at ev
      obtain ⟨rfl, _, rfl⟩ := ev
      have d0 := hcell 1 (.int .i64 (R[i]).1.kind) rfl
      have d1 := hcell 2 (.int .i64 (R[i]).1.cents) rfl
      have d2 := hcell 3 (.int .i64 (R[i]).1.seq) rfl
      have d3 := hcell 4 (.string (R[i]).1.swho) rfl
      have d4 := hcell 5 (.int .i64 (R[i]).1.sseq) rfl
      have d5 := hcell 6 (.int .i64 (R[i]).1.szone) rfl
      have d6 := hcell 7 (.int .i64 (R[i]).1.shour) rfl
      have d7 := hcell 8 (.bool (R[i]).1.sbuy) rfl
      have d8 := hcell 9 (.int .i64 (R[i]).1.sqty) rfl
      have d9 := hcell 10 (.int .i64 (R[i]).1.sprice) rfl
      have d10 := hcell 11 (.string (R[i]).1.bwho) rfl
      have d11 := hcell 12 (.int .i64 (R[i]).1.bseq) rfl
      have d12 := hcell 13 (.int .i64 (R[i]).1.bzone) rfl
      have d13 := hcell 14 (.bool (R[i]).1.bbuy) rfl
      have d14 := hcell 15 (.int .i64 (R[i]).1.bprice) rfl
      have d15 := hcell 16 ((R[i]).1.qv) rfl
      have d16 := hcell 17 (.int .i64 (R[i]).1.parent) rfl
      have d17 := hcell 18 (.int .i64 (R[i]).1.group) rfl
      have hsa : seqAt R s ((ordN R R.length)[k]) = decide (seqK (R[i]).1 = s) := by
        unfold seqAt
        rw [ei, List.getElem?_eq_getElem hi]
      have HHIT := hid (fun (hh : seqK (R[i]).1 = s) => HFS.out i (by rw [← ei]; exact fnd_at k hlt HM.out (by rw [hsa]; simpa using hh)))
      have HMIS := hid (fun (hh : ¬ seqK (R[i]).1 = s) => show ∀ x ∈ (ordN R R.length).take (k + 1), seqAt R s x = false from fun x hx => by
        rw [List.take_succ_eq_append_getElem hlt] at hx
        rcases List.mem_append.1 hx with hx | hx
        · exact HM.out x hx
        · simp only [List.mem_singleton] at hx
          rw [hx, hsa]; simpa using hh)
      obtain ⟨qa, qc, hq0, _, _⟩ := (hR.fits R[i] (List.getElem_mem hi)).ints.slice
      have hsq := fun X : World => bkseq_any (R[i]).1 X ⟨_, _, _, hq0⟩
      have HSQ := hid hsq
      clear hcell hsa hR ei hsq hq0 HM
      generalize (ordN R R.length).length = n at *
      by_cases hh : seqK (R[i]).1 = s
      · have HE := hid (HHIT.out hh)
        rw [hh] at HSQ
        clear HHIT HMIS hh
        go_wp2_with fail
        go_region_with ((go_at_call 60; refine (HSQ.out _).mono ?_; rintro e X ⟨rfl, bX⟩))
        all_goals
          have bX' : Below wr.heap.size wr X := ⟨bX.os, bX.tape, bX.output, bX.size, bX.block⟩
          have bF := chain2 b1 (b.trans (bX'.mono b.size))
          have f1' := (Kx.of_below (S := fun _ => False) bX').cell f1 (fun h => h)
          clear f1 c0 bX
          go_wp2
          go_ret
          exact ⟨by rw [HE.out]; rfl, by first | exact bF | exact below_dn bF _ | exact bF.drew⟩
      · have HE := hid (HMIS.out hh)
        clear HHIT HMIS
        generalize seqK (R[i]).1 = y at *
        have hh1 : (y == s) = false := by simpa using hh
        go_wp2_with fail
        go_region_with ((go_at_call 60; refine (HSQ.out _).mono ?_; rintro e X ⟨rfl, bX⟩))
        all_goals
          have bX' : Below wr.heap.size wr X := ⟨bX.os, bX.tape, bX.output, bX.size, bX.block⟩
          have bF := b.trans (bX'.mono b.size)
          clear bX
          go_wp2
          go_roundw
          case rel => exact ⟨k + 1, by omega, by go_num, HE, by first | exact bF | exact below_dn bF _ | exact bF.drew⟩
          case measure => simp [intOf]; omega
    · have hkl : k = (ordN R R.length).length := by omega
      have HF := hid (HFN.out (by
        unfold fndR
        rw [List.find?_eq_none]
        intro x hx
        have := HM.out x (by rw [hkl, List.take_length]; exact hx)
        rw [this]; decide))
      clear hkl
      go_wp2
      go_ret
      exact ⟨by rw [HF.out]; rfl, chain2 b1 b⟩
end Go.Proofs.Ytbkobimbdiogfaa
