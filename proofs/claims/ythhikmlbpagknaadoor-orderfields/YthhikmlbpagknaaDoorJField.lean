/- The document's order: its fields. -/
import Derived.Test.YthhikmlbpagknaaDoorKPar
import Derived.Test.YthhikmlbpagknaaDoorLZNum
namespace Go.Proofs.YthhikmlbpagknaaDoor
open Go.RowKit
set_option linter.unusedVariables false
set_option maxRecDepth 100000
set_option linter.unusedSimpArgs false

def numV0 (x : ByteArray) (lo hi bad : Int) : Int := if numF x lo hi bad = 0 then numR x else 0
set_option maxHeartbeats 1600000 in
theorem jnumber_any (x : ByteArray) (lo hi bad : Int) (w : World) (hx : x.size ≤ 1000000000) (hb : ¬ bad = 0) :
    Calls Tryd.prog 18 #[.string x, .int .i64 lo, .int .i64 hi, .int .i64 bad] w fun r w' => r = .returned (.tuple #[.int .i64 (numV0 x lo hi bad), .int .i64 (numF x lo hi bad)]) ∧ Below w.heap.size w w' := by
  have hU := fun v => znumber_any x v hx
  have hF : numF x lo hi bad = if numE x ≠ 0 then 92 else if numR x < lo ∨ hi < numR x then bad else 0 := rfl
  have hV : numV0 x lo hi bad = if numF x lo hi bad = 0 then numR x else 0 := rfl
  rcases numE_ways x with h0 | h0
  · rw [h0] at hU hF
    simp only [ne_eq, not_true_eq_false, if_false] at hF
    by_cases h1 : numR x < lo ∨ hi < numR x
    · rw [if_pos h1] at hF
      rw [hF, if_neg hb] at hV
      rw [hF, hV]
      clear hF hV
      generalize numR x = r at *
      rcases Bool.eq_false_or_eq_true (decide (r < lo)) with h3 | h3
      all_goals
        first | (have h3' := of_decide_eq_true h3) | (have h3' := of_decide_eq_false h3; have h4' : hi < r := by omega)
        clear h1 h3
        go_enter Tryd.func18, Tryd.ntmps18
        go_wp2_with fail
        refine (hU w).mono ?_
        rintro r2 w2 ⟨rfl, b2⟩
        go_wp2
        go_ret2
        exact ⟨rfl, b2⟩
    · rw [if_neg h1] at hF
      rw [hF, if_pos rfl] at hV
      rw [hF, hV]
      clear hF hV
      generalize numR x = r at *
      have h3 : ¬ r < lo := fun k => h1 (Or.inl k)
      have h4 : ¬ hi < r := fun k => h1 (Or.inr k)
      clear h1
      go_enter Tryd.func18, Tryd.ntmps18
      go_wp2_with fail
      refine (hU w).mono ?_
      rintro r2 w2 ⟨rfl, b2⟩
      go_wp2
      go_ret2
      exact ⟨rfl, b2⟩
  · rw [h0] at hU hF
    simp only [ne_eq, show ¬ (81 : Int) = 0 by omega, not_false_eq_true, if_true] at hF
    rw [hF, if_neg (by omega)] at hV
    rw [hF, hV]
    clear hF hV
    generalize numR x = r at *
    go_enter Tryd.func18, Tryd.ntmps18
    go_wp2_with fail
    refine (hU w).mono ?_
    rintro r2 w2 ⟨rfl, b2⟩
    go_wp2
    go_ret2
    exact ⟨rfl, b2⟩
set_option maxHeartbeats 1600000 in
theorem jside_any (x : ByteArray) (w : World) : Calls Tryd.prog 29 #[.string x] w fun r w' => r = .returned (.tuple #[.bool (decide (x = buyB)), .int .i64 (sideF x)]) ∧ w' = w := by
  by_cases h1 : x = buyB
  · subst h1
    have hs : sideF buyB = 0 := by decide
    rw [hs]
    simp only [decide_true]
    unfold buyB
    go_enter Tryd.func29, Tryd.ntmps29
    go_wp2
    go_ret2
    exact ⟨rfl, rfl⟩
  by_cases h2 : x = sellB
  · subst h2
    have hs : sideF sellB = 0 := by decide
    rw [hs]
    simp only [h1, decide_false]
    unfold sellB
    go_enter Tryd.func29, Tryd.ntmps29
    go_wp2
    go_ret2
    exact ⟨rfl, rfl⟩
  · have hs : sideF x = 91 := by unfold sideF; rw [if_neg (fun k => k.elim h1 h2)]
    rw [hs]
    simp only [h1, decide_false]
    obtain ⟨t1, t3⟩ := toL_ne (l := [98, 117, 121]) h1
    obtain ⟨t2, t4⟩ := toL_ne (l := [115, 101, 108, 108]) h2
    clear h1 h2
    go_enter Tryd.func29, Tryd.ntmps29
    go_wp2
    go_ret2
    exact ⟨rfl, rfl⟩
/-- What stands ahead of k is no bad quantity. -/
def okTo (L : List Int) (k : Nat) : Prop := ∀ q ∈ L.take k, ¬ q < 0 ∧ ¬ 1000 < q
def someTo (L : List Int) (k : Nat) : Bool := (L.take k).any fun q => decide (0 < q)
theorem okTo_succ {L : List Int} {k : Nat} (h : k < L.length) (h1 : okTo L k) (h2 : ¬ L[k] < 0) (h3 : ¬ 1000 < L[k]) : okTo L (k + 1) := by
  intro q hq
  rw [List.take_succ_eq_append_getElem h] at hq
  rcases List.mem_append.1 hq with hq | hq
  · exact h1 q hq
  · simp at hq; subst hq; exact ⟨h2, h3⟩
theorem someTo_succ {L : List Int} {k : Nat} (h : k < L.length) : someTo L (k + 1) = (someTo L k || decide (0 < L[k])) := by
  unfold someTo
  rw [List.take_succ_eq_append_getElem h, List.any_append]; simp
theorem bad_at {L : List Int} {k : Nat} (h : k < L.length) (hb : L[k] < 0 ∨ 1000 < L[k]) : qtyBad L = true := by
  unfold qtyBad
  rw [Bool.or_eq_true]; left
  rw [List.any_eq_true]
  exact ⟨L[k], List.getElem_mem h, by simpa using hb⟩
theorem bad_end {L : List Int} (h1 : okTo L L.length) : qtyBad L = !(someTo L L.length) := by
  unfold qtyBad someTo
  rw [List.take_length]
  have : (L.any fun q => decide (q < 0) || decide (1000 < q)) = false := by
    rw [List.any_eq_false]
    intro q hq
    have := h1 q (by rw [List.take_length]; exact hq)
    simp; omega
  rw [this]; simp
def qV (x : ByteArray) (hours : Int) : List Int := if qF x hours = 0 then numsL x else []
theorem jq_no {x : ByteArray} {hours n : Int} (h : qF x hours = n) (hn : n ≠ 0) (w : World) (B : Nat) : ∃ v, Ending.returned (.tuple #[.slice none 0 0, .int .i64 n]) = .returned (.tuple #[v, .int .i64 (qF x hours)]) ∧ Ints w v (qV x hours) ∧ Fresh B v := by
  refine ⟨_, by rw [h], ?_, fresh_none B⟩
  rw [show qV x hours = [] by unfold qV; rw [h, if_neg hn]]
  exact Row1.nil w
set_option maxHeartbeats 3200000 in
theorem jquant_any (x : ByteArray) (hours : Int) (w : World) (hx : x.size ≤ 1000000) :
    Calls Tryd.prog 30 #[.string x, .int .i64 hours] w fun r w' => (∃ v, r = .returned (.tuple #[v, .int .i64 (qF x hours)]) ∧ Ints w' v (qV x hours) ∧ Fresh w.heap.size v) ∧ Below w.heap.size w w' := by
  have hU := fun v => znumbersF_any x v hx
  have hF : qF x hours = if numsE x ≠ 0 then 92 else if ((numsL x).length : Int) ≠ hours then 91 else if qtyBad (numsL x) = true then 95 else 0 := rfl
  rcases numsE_ways x with hE | hE
  · rw [hE] at hU
    rw [if_neg (by simp [hE])] at hF
    by_cases hL : ((numsL x).length : Int) = hours
    · rw [if_neg (by simp [hL])] at hF
      have HF := hid hF
      have hL' : ¬ ¬ ((numsL x).length : Int) = hours := fun k => k hL
      clear hF
      subst hL
      go_enter Tryd.func30, Tryd.ntmps30
      go_wp2_with fail
      refine (hU w).mono ?_
      rintro r2 w2 ⟨⟨v, rfl, i2, n2⟩, b2⟩
      clear hU hL'
      obtain ⟨a, c, hv, hlc, hcm⟩ := i2.slice
      subst hv
      unfold maxLen at hcm
      obtain ⟨L, HL⟩ : ∃ L, Hid (L = numsL x) := ⟨_, rfl⟩
      rw [← HL.out] at i2 hlc n2 ⊢
      go_wp2
      go_loopw [8, 9] (fun s i wr => ∃ k : Nat, k ≤ L.length ∧ s = .bool (someTo L k) ∧ i = .int .i64 (k : Int) ∧ Hid (okTo L k) ∧ wr = w2) (fun _ i _ => L.length - (intOf i).toNat)
      case atStart => exact ⟨0, Nat.zero_le _, rfl, rfl, (fun q hq => by simp at hq), rfl⟩
      case round =>
        obtain ⟨k, hk, rfl, rfl, HO, rfl⟩ := hrel
        by_cases hlt : k < L.length
        · obtain ⟨b1, o1, d1, e1, l1, m1, f1⟩ := i2.at k hlt
          simp only [Value.slice.injEq] at e1
          obtain ⟨rfl, _, rfl⟩ := e1
          have HS := hid (someTo_succ hlt)
          have HB := hid (fun hb => bad_at hlt hb)
          have HK := hid (fun h2 h3 => okTo_succ hlt HO.out h2 h3)
          generalize L[k] = y at *
          by_cases h1 : y < 0
          · have HE := hid (show qF x ((numsL x).length : Int) = 95 by rw [HF.out, if_pos (by rw [← HL.out]; exact HB.out (Or.inl h1))])
            clear i2
            go_wp2
            go_ret2
            exact ⟨jq_no HE.out (by omega) _ _, b2⟩
          by_cases h2 : 1000 < y
          · have HE := hid (show qF x ((numsL x).length : Int) = 95 by rw [HF.out, if_pos (by rw [← HL.out]; exact HB.out (Or.inr h2))])
            clear i2
            go_wp2
            go_ret2
            exact ⟨jq_no HE.out (by omega) _ _, b2⟩
          have HK2 := hid (HK.out h1 h2)
          rcases Bool.eq_false_or_eq_true (someTo L k) with hs | hs
          · rw [hs] at HS ⊢
            clear hs
            go_wp2
            go_roundw
            case rel => exact ⟨k + 1, by omega, by rw [HS.out]; rfl, by go_num, HK2, by simp⟩
            case measure => simp [intOf]; omega
          · rw [hs] at HS ⊢
            clear hs
            go_wp2
            go_roundw
            case rel => exact ⟨k + 1, by omega, by rw [HS.out]; simp, by go_num, HK2, by simp⟩
            case measure => simp [intOf]; omega
        · obtain rfl : k = L.length := by omega
          have HZ := hid (bad_end HO.out)
          rcases Bool.eq_false_or_eq_true (someTo L L.length) with hs | hs
          · rw [hs] at HZ ⊢
            have HE := hid (show qF x ((numsL x).length : Int) = 0 by rw [HF.out, if_neg (by rw [← HL.out, HZ.out]; simp)])
            clear hs
            go_wp2
            go_ret2
            refine ⟨⟨.slice a L.length c, (by rw [HE.out]; rfl), ?_, n2⟩, b2⟩
            rw [show qV x ((numsL x).length : Int) = L by unfold qV; rw [HE.out, if_pos rfl, HL.out]]
            exact i2
          · rw [hs] at HZ ⊢
            have HE := hid (show qF x ((numsL x).length : Int) = 95 by rw [HF.out, if_pos (by rw [← HL.out, HZ.out]; rfl)])
            clear hs
            go_wp2
            go_ret2
            exact ⟨jq_no HE.out (by omega) _ _, b2⟩
    · rw [if_pos (by simpa using hL)] at hF
      have HE := hid hF
      clear hF
      go_enter Tryd.func30, Tryd.ntmps30
      go_wp2_with fail
      refine (hU w).mono ?_
      rintro r2 w2 ⟨⟨v, rfl, i2, n2⟩, b2⟩
      obtain ⟨a, c, hv, hlc, hcm⟩ := i2.slice
      subst hv
      clear i2 hU
      generalize (numsL x).length = N at *
      go_wp2
      go_ret2
      exact ⟨jq_no HE.out (by omega) _ _, b2⟩
  · rw [if_pos (by rcases hE with k | k <;> rw [k] <;> omega)] at hF
    have HE := hid hF
    clear hF
    have h0 : ¬ numsE x = 0 := by rcases hE with k | k <;> rw [k] <;> omega
    have h0' : (numsE x != 0) = true := by simp [h0]
    generalize numsE x = n at *
    go_enter Tryd.func30, Tryd.ntmps30
    go_wp2_with fail
    refine (hU w).mono ?_
    rintro r2 w2 ⟨⟨v, rfl, i2, n2⟩, b2⟩
    obtain ⟨a, c, hv, hlc, hcm⟩ := i2.slice
    subst hv
    clear i2 hU
    go_wp2
    go_ret2
    exact ⟨jq_no HE.out (by omega) _ _, b2⟩
end Go.Proofs.YthhikmlbpagknaaDoor
