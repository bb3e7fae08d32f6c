/- Parse: the number whose text it is. -/
import Derived.Test.YtchibjdhdbkdhaaDoorIsText
namespace Go.Proofs.YtchibjdhdbkdhaaDoor
open Go.RowKit
set_option linter.unusedVariables false
set_option maxRecDepth 100000
set_option linter.unusedSimpArgs false

set_option maxHeartbeats 800000 in
theorem parse_no (s : ByteArray) (w : World) (hs : s.size ≤ 1000000000) (h : ¬ Txt s) :
    Calls Tryd.prog 46 #[.string s] w fun e w' => e = .returned (.tuple #[.agg #[.slice none 0 0], .int .i64 10]) ∧ Below w.heap.size w w' := by
  go_enter Tryd.func46, Tryd.ntmps46
  go_wp2_with fail
  refine (isText_no s _ hs h).mono ?_
  rintro e w' ⟨rfl, rfl⟩
  go_wp2
  refine bodyPost_ret (v := .tuple #[.agg #[.slice none 0 0], .int .i64 10]) (by simp [results, Tryd.results46, go_sem]) rfl ⟨rfl, ?_⟩
  exact (Below.refl _ _).alloc (Nat.le_refl _) _
/-- What holds at the head of a round: k digits are read, the last of them, worth c, not yet put to the limbs. -/
def ParseRel (s : ByteArray) (n k p c : Nat) (S : List Nat) : Prop := S.length = n ∧ Bd S ∧ dv s k = val S * p + c ∧ c < p ∧ (k = s.size → p = 1) ∧ ∃ q, q ≤ 8 ∧ p = 10 ^ q
theorem parse_round_on {s : ByteArray} {n k p c : Nat} {S : List Nat} (h : ParseRel s n k p c S) (hp : p ≠ 100000000) (hk : k + 1 ≠ s.size) (hd : bt s k - 48 ≤ 9) : ParseRel s n (k + 1) (p * 10) (c * 10 + (bt s k - 48)) S := by
  obtain ⟨h1, h2, h3, h4, h5, q, hq, h6⟩ := h
  have hq8 : q ≠ 8 := by rintro rfl; exact hp (by rw [h6])
  refine ⟨h1, h2, ?_, by omega, fun e => absurd e hk, q + 1, by omega, by rw [h6, Nat.pow_succ]⟩
  rw [dv, h3, Nat.add_mul, Nat.mul_assoc]; omega
theorem parse_round_fit {s : ByteArray} {n k p c : Nat} {S : List Nat} (h : ParseRel s n k p c S) (hd : ∀ j, j < k + 1 → 48 ≤ bt s j ∧ bt s j ≤ 57) (hn : k + 1 < 9 * n) : val S * (p * 10) + (c * 10 + (bt s k - 48)) < 4294967296 ^ n ∧ val S * (p * 10) + (c * 10 + (bt s k - 48)) = dv s (k + 1) := by
  obtain ⟨h1, h2, h3, h4, h5, q, hq, h6⟩ := h
  have e : val S * (p * 10) + (c * 10 + (bt s k - 48)) = dv s (k + 1) := by
    rw [dv, h3, Nat.add_mul, Nat.mul_assoc]; omega
  have h7 := dv_lt (k + 1) hd
  have h8 := fit_pow (k + 1) n hn
  exact ⟨by omega, e⟩
theorem pow10_le {q : Nat} (h : q ≤ 8) : 10 ^ q ≤ 100000000 := by
  have : 10 ^ q ≤ 10 ^ 8 := Nat.pow_le_pow_right (by omega) h
  simpa using this
theorem ParseRel.small {s : ByteArray} {n k p c : Nat} {S : List Nat} (h : ParseRel s n k p c S) : p ≤ 100000000 ∧ c < p := by
  obtain ⟨h1, h2, h3, h4, h5, q, hq, h6⟩ := h
  exact ⟨by rw [h6]; exact pow10_le hq, h4⟩
set_option maxHeartbeats 1600000 in
theorem parse_yes (s : ByteArray) (w : World) (hs : s.size ≤ 1000000000) (h : Txt s) (n : Nat) (hn : n = s.size / 9 + 1) :
    Calls Tryd.prog 46 #[.string s] w fun e w' => (∃ v, e = .returned (.tuple #[v, .int .i64 0]) ∧ NatIs w' v (num s) n) ∧ Below w.heap.size w w' := by
  obtain ⟨i0, hi, hz0, hz1, hz2⟩ := info_parts Tryd.info73
  have HN := hid hn
  have hn1 : 9 * n ≤ s.size + 9 := by omega
  have hn2 : s.size < 9 * n := by omega
  clear hn
  go_enter Tryd.func46, Tryd.ntmps46
  go_wp2_with fail
  refine (isText_yes s _ hs h).mono ?_
  rintro e w' ⟨rfl, rfl⟩
  go_wp2_with (first | (at_make; refine wpList_make_full _ rfl _ _ 22 rfl (w.heap.size + 1) 73 i0 (.int .u32 0) 1 Tryd.underlying22 hi hz0 hz1 _ _ _ _ n rfl rfl (by have := HN.out; omega) (by have := HN.out; omega) (by rw [hz2]; omega) (by unfold maxLen; omega) (by simp) ?_))
  intro w1 hown hgrow
  have hb1 : Below (w.heap.size + 1) (w.alloc (Obj.cells #[Value.slice none 0 0] 24)) w1 :=
    (Below.refl (w.heap.size + 1) _).grown hgrow (by simp) (by intro k hk; simp at hk)
  rw [toList_madeCells_one, ← u32s_rep] at hown
  have hWz : (w.alloc (Obj.cells #[Value.slice none 0 0] 24)).cell? ⟨w.heap.size, 0, none⟩ = some (.slice none 0 0) := by simp [go_sem]
  have hWf : (w.alloc (Obj.cells #[Value.slice none 0 0] 24)).frozen? ⟨w.heap.size, 0, none⟩ = false := by simp [go_sem]
  have hWb : Below w.heap.size w (w.alloc (Obj.cells #[Value.slice none 0 0] 24)) := (Below.refl _ _).alloc (Nat.le_refl _) _
  have hWs : w.heap.size + 1 ≤ (w.alloc (Obj.cells #[Value.slice none 0 0] 24)).heap.size := by simp
  clear hgrow
  generalize w.alloc (Obj.cells #[Value.slice none 0 0] 24) = W at *
  go_wp2
  go_loopw [5, 6, 19] (fun c p i wr => ∃ (k pp cc : Nat) (S : List Nat), k ≤ s.size ∧ i = .int .i64 k ∧ c = .int .u32 cc ∧ p = .int .u32 pp ∧ ParseRel s n k pp cc S ∧
        wr.ownsRow (w.heap.size + 1) 73 1 (.slice (some ⟨w.heap.size + 1, 0, none⟩) n n) n (u32s S) ∧ Below (w.heap.size + 1) W wr) (fun _ _ i _ => s.size - (intOf i).toNat)
  case atStart => exact ⟨0, 1, 0, List.replicate n 0, Nat.zero_le _, rfl, rfl, rfl, ⟨by simp, Bd_rep _, by simp [dv, val, pv_zero (fun j _ => lg_rep n j)], by omega, fun _ => rfl, 0, by omega, rfl⟩, hown, hb1⟩
  case round =>
    obtain ⟨k, pp, cc, S, hk, rfl, rfl, rfl, hR, hown', hbel⟩ := hrel
    have hsm := hR.small
    obtain ⟨hp1, hc1⟩ := hsm
    have hbw : Below w.heap.size w wr := hWb.trans (hbel.mono (by omega))
    have HR := hid hR
    have HT := hid h.2.2
    clear hR hown hb1
    by_cases hlt : k < s.size
    · have ek := bt_at s k hlt
      have hd1 := (HT.out k hlt).1
      have hd2 := (HT.out k hlt).2
      by_cases hq : pp = 100000000 ∨ k + 1 = s.size
      · have hfit := parse_round_fit HR.out (fun j hj => HT.out j (by omega)) (by omega)
        have HF := hid hfit
        clear hfit
        have hcap : (pp : Int) * 10 ≤ 1000000000 := by omega
        have hgo : ((pp : Int) * 10 == 1000000000) = true ∨ ((pp : Int) * 10 == 1000000000) = false ∧ ((k : Int) == (s.size : Int) - 1) = true := by
          by_cases hq1 : pp = 100000000
          · left; rw [hq1]; rfl
          · right
            refine ⟨by simp; omega, ?_⟩
            rcases hq with hq | hq
            · exact absurd hq hq1
            · simp; omega
        clear hq
        rcases hgo with t1 | ⟨t1, t2⟩
        all_goals
          go_wp2_with fail
          rw [show (pp : Int) * 10 = ((pp * 10 : Nat) : Int) by omega, show (cc : Int) * 10 + ((bt s k : Int) - 48) = ((cc * 10 + (bt s k - 48) : Nat) : Int) by omega]
          refine (scale_any _ (w.heap.size + 1) (w.heap.size + 1) n n S HR.out.2.1 HR.out.1 (Nat.le_refl _) (by unfold maxLen; omega) hown' (pp * 10) (cc * 10 + (bt s k - 48)) (by omega) (by omega) HF.out.1).mono ?_
          rintro e w2 ⟨rfl, ⟨L', l1, l2, l3, own2⟩, hgr⟩
          have hb2 := hbel.grown hgr (by have := hbel.size; omega) (by intro j hj; simp at hj; omega)
          have hL : ParseRel s n (k + 1) 1 0 L' := ⟨l1, l2, by rw [l3, HF.out.2]; omega, by omega, fun _ => rfl, 0, by omega, rfl⟩
          have HL := hid hL
          clear hL l1 l3 hgr
          go_wp2
          go_roundw
          case rel => exact ⟨k + 1, 1, 0, L', by omega, by go_num, rfl, rfl, HL.out, own2, hb2⟩
          case measure => simp [intOf]; omega
      · obtain ⟨hq1, hq2⟩ : pp ≠ 100000000 ∧ k + 1 ≠ s.size := ⟨fun e => hq (Or.inl e), fun e => hq (Or.inr e)⟩
        have hR2 := parse_round_on HR.out hq1 hq2 (by omega)
        have hsm2 := hR2.small
        obtain ⟨hp2, hc2⟩ := hsm2
        have HR2 := hid hR2
        clear hR2 hq
        have t1 : ((pp : Int) * 10 == 1000000000) = false := by simp; omega
        have t2 : ((k : Int) == (s.size : Int) - 1) = false := by simp; omega
        go_wp2
        go_roundw
        case rel => exact ⟨k + 1, pp * 10, cc * 10 + (bt s k - 48), S, by omega, by go_num, by go_num, by go_num, HR2.out, hown', hbel⟩
        case measure => simp [intOf]; omega
    · have hk' : k = s.size := by omega
      have hZ := (hbel.cell (p := ⟨w.heap.size, 0, none⟩) (by show w.heap.size < _; omega)).trans hWz
      have hF := (hbel.frozen (p := ⟨w.heap.size, 0, none⟩) (by show w.heap.size < _; omega)).trans hWf
      have HK := hid hk'
      clear hk'
      go_wp2_with fail
      refine (trim_base wr (w.heap.size + 1) _ S HR.out.2.1 ?_).mono ?_
      · rw [HR.out.1]; exact hown'
      clear hown'
      rintro e w' ⟨⟨v', M, rfl, hM, bM, tM, vM, lM⟩, rfl⟩
      obtain ⟨ao, cp, hv⟩ := Limbs.slice (ownsRow_base0 hM)
      rw [hv]
      rw [hv] at hM
      clear hv
      have HV := hid vM
      clear vM
      have hM2 := ownsRow_setCell_below hM (a := ⟨w.heap.size, 0, none⟩) (by show w.heap.size < _; omega) (.slice ao M.length cp)
      clear hM
      have hB2 := hbw.setCell (p := ⟨w.heap.size, 0, none⟩) (Nat.le_refl _) (.slice ao M.length cp)
      go_wp2
      refine bodyPost_ret (v := .tuple #[.agg #[.slice ao M.length cp], .int .i64 0]) (by simp [results, Tryd.results46, go_sem, hZ]) rfl ⟨⟨_, rfl, ⟨_, M, rfl, ownsRow_base0 hM2, bM, tM, ?_, ?_⟩⟩, hB2⟩
      · rw [HV.out]
        obtain ⟨h1, h2, h3, h4, h5, _⟩ := HR.out
        have e1 := h5 HK.out
        rw [e1] at h3 h4
        unfold num
        rw [← HK.out, h3]; omega
      · have := HR.out.1; omega
end Go.Proofs.YtchibjdhdbkdhaaDoor
