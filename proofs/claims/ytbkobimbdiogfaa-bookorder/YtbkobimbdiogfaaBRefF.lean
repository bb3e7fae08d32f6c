/- BookOrder: the document's alive, find. -/
import Derived.Test.YtbkobimbdiogfaaBRefW
namespace Go.Proofs.Ytbkobimbdiogfaa
open Go.RowKit Go.MapKept
set_option linter.unusedVariables false
set_option maxRecDepth 100000
set_option linter.unusedSimpArgs false

theorem ordN_map (R : Rf) : ∀ k, k ≤ R.length → (ordN R k).map (fun i => R[i]?) = ((R.take k).filter (fun e => isOrd e.1)).map some
  | 0, _ => rfl
  | k + 1, h => by
    have hk : k < R.length := h
    rw [ordN_succ R k hk, List.map_append, ordN_map R k (by omega), List.take_succ_eq_append_getElem hk, List.filter_append, List.map_append]
    congr 1
    rw [List.filter_cons]
    split
    · simp [hk]
    · rfl
theorem ordN_all (R : Rf) : (ordN R R.length).map (fun i => R[i]?) = (R.filter (fun e => isOrd e.1)).map some := by
  have := ordN_map R R.length (Nat.le_refl _)
  rwa [List.take_length] at this
def liveK (kd : Int) : Option (Kb × Bool) → Bool
  | some e => !e.2 && decide (e.1.kind = kd)
  | none => false
theorem kind_kbO {z : Kb} (h : isOrd z = true) : (kbO z).kind = z.kind := by
  rcases isOrd_iff.1 h with h | h
  · rw [kbO_step h, h]; rfl
  · rw [kbO_block h, h]; rfl
theorem alive_eq (R : Rf) (kd : Int) : (ordN R R.length).countP (fun i => liveK kd R[i]?) = cntO (liveR R) kd := by
  have h1 : (ordN R R.length).countP (fun i => liveK kd R[i]?) = ((ordN R R.length).map (fun i => R[i]?)).countP (liveK kd) := by rw [List.countP_map]; rfl
  rw [h1, ordN_all, List.countP_map, List.countP_filter]
  unfold cntO liveR
  rw [List.countP_map, List.countP_filter]
  apply List.countP_congr
  intro e _
  unfold alv liveK
  simp only [Function.comp, Bool.and_eq_true, decide_eq_true_eq, Bool.not_eq_true']
  constructor
  · rintro ⟨⟨h2, h3⟩, h4⟩
    exact ⟨by rw [kind_kbO h4]; exact h3, h4, h2⟩
  · rintro ⟨h2, h3, h4⟩
    rw [kind_kbO h3] at h2
    exact ⟨⟨h4, h2⟩, h3⟩
theorem ordN_lt {R : Rf} {k i : Nat} (h : i ∈ ordN R k) : i < k := by
  unfold ordN at h
  simpa using (List.mem_filter.1 h).1
theorem ordIx_length (R : Rf) (k : Nat) : (ordIx R k).length = (ordN R k).length := by unfold ordIx; rw [List.length_map]
theorem ordIx_at (R : Rf) (k j : Nat) (h : j < (ordIx R k).length) : (ordIx R k)[j] = (((ordN R k)[j]'(by rw [← ordIx_length]; exact h) : Nat) : Int) := by
  simp [ordIx]
theorem RB.ord {X : World} {bb : Nat} {who : ByteArray} {a : Option Addr} {cap : Nat} {R : Rf} (h : RB X bb who a cap R) {v : Value} (hv : Ints X v (ordIx R R.length)) (j : Nat) (hj : j < (ordN R R.length).length) :
    ∃ (i : Nat) (hi : i < R.length) (b1 o1 c1 g : Nat), (ordN R R.length)[j] = i ∧ v = .slice (some ⟨b1, o1, none⟩) (ordN R R.length).length c1 ∧ X.cell? ⟨b1, o1 + j, none⟩ = some (.int .i64 (i : Int)) ∧ a = some ⟨g, 0, none⟩ ∧ (∀ jj u, (onC who R[i])[jj]? = some u → X.cell? ⟨g, i * 20 + jj, none⟩ = some u) := by
  have hj' : j < (ordIx R R.length).length := by rw [ordIx_length]; exact hj
  obtain ⟨b1, o1, c1, e1, l1, m1, f1⟩ := hv.at j hj'
  have hi : (ordN R R.length)[j] < R.length := ordN_lt (List.getElem_mem hj)
  obtain ⟨g, eg, hc⟩ := h.at_ _ hi
  refine ⟨_, hi, b1, o1, c1, g, rfl, by rw [e1, ordIx_length], ?_, eg, hc⟩
  rw [f1, ordIx_at]
theorem countP_take (f : Nat → Bool) (L : List Nat) (j : Nat) (h : j < L.length) : (L.take (j + 1)).countP f = (L.take j).countP f + if f L[j] = true then 1 else 0 := by
  rw [List.take_succ_eq_append_getElem h, List.countP_append]
  congr 1
  simp [List.countP_cons]
set_option maxHeartbeats 3200000 in
theorem bkalive_any {w : World} {bb : Nat} {who : ByteArray} {a : Option Addr} {cap : Nat} {R : Rf} (h : RB w bb who a cap R) (kd : Int) :
    Calls Try.prog 73 #[.pointer (some ⟨bb, 0, none⟩), .string who, .int .i64 kd] w fun e w' => e = .returned (.int .i64 ((cntO (liveR R) kd : Nat) : Int)) ∧ Below w.heap.size w w' := by
  have HEQ := hid (alive_eq R kd)
  generalize hN : cntO (liveR R) kd = N at *
  clear hN
  have hl := h.len
  have hc := h.cap_
  go_enter Try.func73, Try.ntmps73
  go_wp2_with fail
  refine (bkorders_any h).mono ?_
  rintro e w1 ⟨⟨v, rfl, hv⟩, b1⟩
  obtain ⟨va, vc, rfl, hvl, hvm⟩ := hv.slice
  unfold maxLen at hvm
  have h1 := h.below b1
  have hLl := ordIx_len R R.length
  have HV := hid hv
  have H1 := hid h1
  clear hv h1
  rw [ordIx_length] at hvl hLl
  have hlx := ordIx_length R R.length
  rw [hlx]
  go_wp2
  go_loopw [7, 9] (fun n i wr => ∃ k m : Nat, k ≤ (ordN R R.length).length ∧ i = .int .i64 (k : Int) ∧ n = .int .i64 (m : Int) ∧ m ≤ k ∧ Hid (m = ((ordN R R.length).take k).countP (fun i => liveK kd R[i]?)) ∧ Below w1.heap.size w1 wr) (fun _ i _ => (ordN R R.length).length - (intOf i).toNat)
  case atStart => exact ⟨0, 0, Nat.zero_le _, rfl, rfl, Nat.le_refl _, rfl, Below.refl _ _⟩
  case round =>
    obtain ⟨k, m, hk, rfl, rfl, hmk, HM, b⟩ := hrel
    by_cases hlt : k < (ordN R R.length).length
    · have hR := H1.out.below b
      have c0 := blk_cell hR.blk 0 (.slice a R.length cap) rfl
      obtain ⟨i, hi, g1, o1, c1, g, ei, ev, f1, rfl, hcell⟩ := hR.ord (HV.out.below b) k hlt
      simp only [Value.slice.injEq] at ev
      obtain ⟨rfl, _, rfl⟩ := ev
      have d1 := hcell 1 (.int .i64 (R[i]).1.kind) rfl
      have d2 := hcell 19 (.bool (R[i]).2) rfl
      have HS := hid (countP_take (fun i => liveK kd R[i]?) (ordN R R.length) k hlt)
      have hlv : liveK kd R[(ordN R R.length)[k]]? = (!(R[i]).2 && decide ((R[i]).1.kind = kd)) := by
        rw [ei, List.getElem?_eq_getElem hi]; rfl
      rw [hlv, ← HM.out] at HS
      clear hcell hlv hR ei
      generalize (ordN R R.length).length = n at *
      generalize (R[i]).1.kind = K at *
      generalize (R[i]).2 = G at *
      cases G with
      | true =>
        have HF := hid (show m = ((ordN R R.length).take (k + 1)).countP (fun i => liveK kd R[i]?) by rw [HS.out]; simp)
        clear HS
        go_wp2_with fail
        go_quiet (fail)
        go_wp2
        go_roundw
        case rel => exact ⟨k + 1, m, by omega, by go_num, rfl, by omega, HF, below_dn b _⟩
        case measure => simp [intOf]; omega
      | false =>
        by_cases hK : K = kd
        · subst hK
          have HF := hid (show m + 1 = ((ordN R R.length).take (k + 1)).countP (fun i => liveK K R[i]?) by rw [HS.out]; simp)
          clear HS
          go_wp2_with fail
          go_quiet (fail)
          go_wp2
          go_roundw
          case rel => exact ⟨k + 1, m + 1, by omega, by go_num, by go_num, by omega, HF, below_dn b _⟩
          case measure => simp [intOf]; omega
        · have hK1 : (K == kd) = false := by simpa using hK
          have hK2 : decide (K = kd) = false := by simpa using hK
          have HF := hid (show m = ((ordN R R.length).take (k + 1)).countP (fun i => liveK kd R[i]?) by rw [HS.out]; simp [hK])
          clear HS
          go_wp2_with fail
          go_quiet (fail)
          go_wp2
          go_roundw
          case rel => exact ⟨k + 1, m, by omega, by go_num, rfl, by omega, HF, below_dn b _⟩
          case measure => simp [intOf]; omega
    · have hkl : k = (ordN R R.length).length := by omega
      have HF := hid (show m = N by rw [HM.out, hkl, List.take_length]; exact HEQ.out)
      clear hkl
      go_wp2
      go_ret
      exact ⟨by rw [HF.out]; rfl, chain2 b1 b⟩
end Go.Proofs.Ytbkobimbdiogfaa
