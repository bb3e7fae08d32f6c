/- cert: Check of the document. -/
import Derived.Test.YtlkcfgjhgmpbcaaCCheck
namespace Go.Proofs.Ytlkcfgjhgmpbcaa
open Go.RowKit
set_option linter.unusedVariables false
set_option maxRecDepth 100000
set_option linter.unusedSimpArgs false

set_option maxHeartbeats 6400000 in
theorem hCheck_any (w : World) (rv ev bv cv : Value) (P : Prb) (h : IsPrb w rv ev bv cv P) :
    Calls Try.prog 10 #[.agg #[rv, ev, bv, cv]] w fun e w' => e = .returned (.int .i64 (chk P)) ∧ Below w.heap.size w w' := by
  have HI := hid h
  obtain ⟨ra, rc, rfl, rl, rm⟩ := h.rows.slice
  obtain ⟨ea, ec, rfl, el, em⟩ := h.rel.slice
  obtain ⟨ba, bc, rfl, bl, bm⟩ := h.b.slice
  obtain ⟨ca, cc, rfl, cl, cm⟩ := h.c.slice
  unfold maxLen at rm em bm cm
  clear h
  have b1 := (Below.refl w.heap.size w).alloc (Nat.le_refl _) (Obj.cells #[.slice ra P.rows.length rc, .slice ea P.rel.length ec, .slice ba P.b.length bc, .slice ca P.c.length cc] 34)
  have e1 := heap_alloc_new w (Obj.cells #[.slice ra P.rows.length rc, .slice ea P.rel.length ec, .slice ba P.b.length bc, .slice ca P.c.length cc] 34)
  have c0 := bxc e1 0 (.slice ra P.rows.length rc) rfl
  have c1 := bxc e1 1 (.slice ea P.rel.length ec) rfl
  have c2 := bxc e1 2 (.slice ba P.b.length bc) rfl
  have c3 := bxc e1 3 (.slice ca P.c.length cc) rfl
  have HB := hid b1
  have HE := hid e1
  have HI1 := hid (HI.out.below b1)
  have HS := hid (show chk P = if shp P = false then 120 else if 64 < P.rows.length ∨ 64 < P.c.length then 82 else if bey P.b = true ∨ bey P.c = true ∨ P.rows.any bey = true then 82 else 0 from rfl)
  have HP := hid (show shp P = (decide (P.rel.length = P.rows.length) && decide (P.b.length = P.rows.length) && P.rows.all (fun r => decide (r.length = P.c.length))) from rfl)
  generalize chk P = R at *
  generalize shp P = sp at *
  clear b1 e1 HI
  generalize P.rel.length = n1 at *
  generalize P.b.length = n2 at *
  go_enter Try.func10, Try.ntmps10
  by_cases h1 : n1 = P.rows.length
  case neg =>
    have h1' : ((P.rows.length : Int) == (n1 : Int)) = false := beq_eq_false_iff_ne.2 (by omega)
    have h1'' : ¬ (P.rows.length : Int) = (n1 : Int) := by omega
    have HF := hid (show R = 120 by rw [HS.out, if_pos (by rw [HP.out]; simp [h1])])
    go_wp2
    go_ret
    exact ⟨by rw [HF.out]; rfl, HB.out⟩
  subst h1
  by_cases h2 : n2 = P.rows.length
  case neg =>
    have h1' : ((P.rows.length : Int) == (n2 : Int)) = false := beq_eq_false_iff_ne.2 (by omega)
    have h1'' : ¬ (P.rows.length : Int) = (n2 : Int) := by omega
    have HF := hid (show R = 120 by rw [HS.out, if_pos (by rw [HP.out]; simp [h2])])
    go_wp2
    go_ret
    exact ⟨by rw [HF.out]; rfl, HB.out⟩
  subst h2
  have HP2 := hid (show sp = P.rows.all (fun r => decide (r.length = P.c.length)) by rw [HP.out]; simp)
  clear HP
  go_wp2
  generalize w.alloc (Obj.cells #[.slice ra P.rows.length rc, .slice ea P.rows.length ec, .slice ba P.rows.length bc, .slice ca P.c.length cc] 34) = W at *
  go_loopw [3] (fun i wr => ∃ k : Nat, k ≤ P.rows.length ∧ i = .int .i64 (k : Int) ∧ Hid ((P.rows.take k).all (fun r => decide (r.length = P.c.length)) = true) ∧ Below W.heap.size W wr) (fun i _ => P.rows.length - (intOf i).toNat)
  case atStart => exact ⟨0, Nat.zero_le _, rfl, rfl, Below.refl _ _⟩
  case round =>
    obtain ⟨k, hk, rfl, HK, bk⟩ := hrel
    have EX := (bk.block w.heap.size (lt_of_block HE.out)).trans HE.out
    have d0 := bxc EX 0 (.slice ra P.rows.length rc) rfl
    have d2 := bxc EX 2 (.slice ba P.rows.length bc) rfl
    have d3 := bxc EX 3 (.slice ca P.c.length cc) rfl
    have HIK := hid (HI1.out.below bk)
    have BK := hid (chain2 HB.out bk)
    by_cases hlt : k < P.rows.length
    · obtain ⟨b, off, c', u, e, hc, hu⟩ := HIK.out.rows.at k hlt
      simp only [Value.slice.injEq] at e
      obtain ⟨rfl, _, rfl⟩ := e
      obtain ⟨ua, uc, hue, _, hum⟩ := hu.slice
      subst hue
      unfold maxLen at hum
      have HT := hid (fun hh : P.rows[k].length ≠ P.c.length => show R = 120 by rw [HS.out, if_pos (by rw [HP2.out]; exact all_no hlt hh)])
      have HF := hid (fun hh : P.rows[k].length = P.c.length => all_succ hlt HK.out hh)
      clear HK hu EX c0 c1 c2 c3
      generalize P.rows[k].length = g at *
      by_cases hg : g = P.c.length
      · have hg1 : ((g : Int) == (P.c.length : Int)) = true := by rw [hg]; simp
        have HN := hid (HF.out hg)
        clear HF HT
        subst hg
        go_wp2_with fail
        go_quiet (fail)
        go_wp2
        go_roundw
        case rel => exact ⟨k + 1, by omega, by go_num, HN, by first | exact below_dn bk _ | exact bk.drew | exact bk⟩
        case measure => simp [intOf]; omega
      · have hg1 : ((g : Int) == (P.c.length : Int)) = false := beq_eq_false_iff_ne.2 (by omega)
        have hg2 : ¬ (g : Int) = (P.c.length : Int) := by omega
        have HN := hid (HT.out hg)
        go_wp2_with fail
        go_quiet (fail)
        go_wp2
        go_ret
        exact ⟨by rw [HN.out]; rfl, by first | exact below_dn BK.out _ | exact BK.out.drew | exact BK.out⟩
    · have hkl : k = P.rows.length := by omega
      have HSP := hid (show sp = true by rw [HP2.out]; have := HK.out; rwa [hkl, List.take_length] at this)
      have HS2 := hid (show R = if 64 < P.rows.length ∨ 64 < P.c.length then 82 else if bey P.b = true ∨ bey P.c = true ∨ P.rows.any bey = true then 82 else 0 by rw [HS.out, if_neg (by rw [HSP.out]; decide)])
      clear hkl HK HS HSP HP2 c0 c1 c2 c3
      by_cases h1 : 64 < P.rows.length
      · have h1' : decide ((64 : Int) < (P.rows.length : Int)) = true := by simp; omega
        have HN := hid (show R = 82 by rw [HS2.out, if_pos (Or.inl h1)])
        go_wp2
        go_ret
        exact ⟨by rw [HN.out]; rfl, BK.out⟩
      have h1' : decide ((64 : Int) < (P.rows.length : Int)) = false := by simp; omega
      by_cases h2 : 64 < P.c.length
      · have h2' : decide ((64 : Int) < (P.c.length : Int)) = true := by simp; omega
        have HN := hid (show R = 82 by rw [HS2.out, if_pos (Or.inr h2)])
        go_wp2
        go_ret
        exact ⟨by rw [HN.out]; rfl, BK.out⟩
      have h2' : decide ((64 : Int) < (P.c.length : Int)) = false := by simp; omega
      have HS3 := hid (show R = if bey P.b = true ∨ bey P.c = true ∨ P.rows.any bey = true then 82 else 0 by rw [HS2.out, if_neg (by omega)])
      clear HS2
      go_wp2_with fail
      refine (hgreat_any _ _ _ HIK.out.b).mono ?_
      rintro e X1 ⟨rfl, hX1⟩
      subst hX1
      generalize hb : bey P.b = xb at *
      cases xb with
      | true =>
        have HN := hid (show R = 82 by rw [HS3.out, if_pos (Or.inl rfl)])
        clear hb
        go_wp2
        go_ret
        exact ⟨by rw [HN.out]; rfl, BK.out⟩
      | false =>
      clear hb
      go_wp2_with fail
      refine (hgreat_any _ _ _ HIK.out.c).mono ?_
      rintro e X1 ⟨rfl, hX1⟩
      subst hX1
      generalize hb : bey P.c = xb at *
      cases xb with
      | true =>
        have HN := hid (show R = 82 by rw [HS3.out, if_pos (Or.inr (Or.inl rfl))])
        clear hb
        go_wp2
        go_ret
        exact ⟨by rw [HN.out]; rfl, BK.out⟩
      | false =>
      clear hb
      have HS4 := hid (show R = if P.rows.any bey = true then 82 else 0 by rw [HS3.out]; simp)
      clear HS3 EX
      go_wp2
      generalize X1 = X at *
      go_loopw [4] (fun i wr => ∃ q : Nat, q ≤ P.rows.length ∧ i = .int .i64 (q : Int) ∧ Hid ((P.rows.take q).any bey = false) ∧ wr = X) (fun i _ => P.rows.length - (intOf i).toNat)
      case atStart => exact ⟨0, Nat.zero_le _, rfl, rfl, rfl⟩
      case round =>
        obtain ⟨q, hq, rfl, HK, rfl⟩ := hrel
        by_cases hlt : q < P.rows.length
        · obtain ⟨b, off, c', u, e, hc, hu⟩ := HIK.out.rows.at q hlt
          simp only [Value.slice.injEq] at e
          obtain ⟨rfl, _, rfl⟩ := e
          have HT := hid (fun hh : bey P.rows[q] = true => show R = 82 by rw [HS4.out, if_pos (rows_at hlt hh)])
          have HF := hid (fun hh : bey P.rows[q] = false => rows_succ hlt HK.out hh)
          have HU := hid hu
          obtain ⟨ua, uc, hue, _, _⟩ := hu.slice
          subst hue
          clear HK hu
          go_wp2_with fail
          refine (hgreat_any _ _ _ HU.out).mono ?_
          rintro e X1 ⟨rfl, hX1⟩
          subst hX1
          generalize bey P.rows[q] = g at *
          cases g with
          | true =>
            have HN := hid (HT.out rfl)
            go_wp2
            go_ret
            exact ⟨by rw [HN.out]; rfl, BK.out⟩
          | false =>
            have HN := hid (HF.out rfl)
            go_wp2
            go_roundw
            case rel => exact ⟨q + 1, by omega, by go_num, HN, by simp⟩
            case measure => simp [intOf]; omega
        · have hkl : q = P.rows.length := by omega
          have HN := hid (show R = 0 by rw [HS4.out, if_neg]; have := HK.out; rw [hkl, List.take_length] at this; rw [this]; decide)
          clear hkl
          go_wp2
          go_ret
          exact ⟨by rw [HN.out]; rfl, BK.out⟩
end Go.Proofs.Ytlkcfgjhgmpbcaa
