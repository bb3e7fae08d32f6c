/- CCmp, CKeep. -/
import Derived.Test.YtbdhanlenekdhaaGreatDoorZCSum
import Derived.Test.YtbdhanlenekdhaaGreatDoorPk34
import Derived.Deep.RegionHeld3
/- cert: a sum over a list, compared. -/
namespace Go.Proofs.YtbdhanlenekdhaaGreatDoor
open Go.RowKit
set_option linter.unusedVariables false
set_option maxRecDepth 100000
set_option linter.unusedSimpArgs false

theorem LIs.form {w : World} {tv p1 p2 p3 p4 : Value} {X : List Rat} (h : LIs w tv p1 p2 p3 p4 X) : ∃ ta tc a1 a2 a3 b1 a4 a5 a6 b2, tv = .slice ta X.length tc ∧ p1 = .slice a1 a2 a3 ∧ p2 = .bool b1 ∧ p3 = .slice a4 a5 a6 ∧ p4 = .bool b2 ∧ X.length ≤ tc ∧ tc ≤ 9223372036854775807 := by
  obtain ⟨m, base, C, h1, h4, h5, h6, h2, h3⟩ := h
  obtain ⟨ta, tc, e, l, c⟩ := h3.slice
  rw [List.length_map] at e l
  obtain ⟨a1, a2, a3, b1, a4, a5, a6, b2, hm⟩ := h2.form
  simp only [Value.agg.injEq, Array.mk.injEq, List.cons.injEq, and_true] at hm
  exact ⟨ta, tc, a1, a2, a3, b1, a4, a5, a6, b2, e, hm.1, hm.2.1, hm.2.2.1, hm.2.2.2, l, c⟩
set_option maxHeartbeats 12800000 in
theorem compare_any (w : World) (tv p1 p2 p3 p4 : Value) (X : List Rat) (fv : Value) (f : List Int) (n : Int) (h : LIs w tv p1 p2 p3 p4 X) (hf : Ints w fv f) (h9 : In9 f) (hfl : f.length ≤ X.length) (hn : -9223372036854775808 ≤ n ∧ n < 9223372036854775808) :
    Calls Tryz.prog 40 #[.agg #[tv, p1, p2, p3, p4], fv, .int .i64 n] w fun e w' => e = .returned (.int .i64 (cmpR (dot f X) (n : Rat))) ∧ Below w.heap.size w w' := by
  obtain ⟨ta, tc, a1, a2, a3, b1, a4, a5, a6, b2, rfl, rfl, rfl, rfl, rfl, hlc, hcm⟩ := h.form
  obtain ⟨m, base, C, hm0, hm, hl, hX, hq, hL⟩ := h
  obtain ⟨fa, fc, rfl, hfc, hfm⟩ := hf.slice
  have hval : cmpR (dot f (X.map (fun x => x * m))) (m * (n : Rat)) = cmpR (dot f X) (n : Rat) := by rw [dot_scale]; exact cmp_scale hm0
  rw [← hval]
  have hlen : (X.map (fun x => x * m)).length = X.length := by simp
  have b0 := (Below.refl w.heap.size w).alloc (Nat.le_refl _) (Obj.cells #[.slice ta X.length tc, .slice a1 a2 a3, .bool b1, .slice a4 a5 a6, .bool b2] 71)
  have x0 := box_new w (Obj.cells #[.slice ta X.length tc, .slice a1 a2 a3, .bool b1, .slice a4 a5 a6, .bool b2] 71)
  have HT := hid (tops_lt hm hX)
  have HSUM := hid (fun (Y : World) (bY : Below w.heap.size w Y) => show Calls Tryz.prog 66 #[.agg #[.slice ta X.length tc, .slice a1 a2 a3, .bool b1, .slice a4 a5 a6, .bool b2], .slice fa f.length fc] Y (fun e w' => ∃ v, e = .returned v ∧ QIs w' v (dot f (X.map (fun x => x * m))) 330000 ∧ Below Y.heap.size Y w') by
    have := sum_any Y ta tc (.slice a1 a2 a3) (.bool b1) (.slice a4 a5 a6) (.bool b2) (X.map (fun x => x * m)) base C (.slice fa f.length fc) f ⟨a1, a2, a3, b1, a4, a5, a6, b2, rfl, rfl, rfl, rfl⟩ HT.out (by rw [hlen]; exact hl) (by rw [hlen]; exact Ls.below (fun h b => h.below b) hL bY) (hf.below bY) h9 (by rw [hlen]; exact hfl)
    rw [hlen] at this
    exact this)
  have HQ := hid (hq.below b0)
  have HB0 := hid b0
  have HBX := hid x0
  have y0 := bxc x0 0 (.slice ta X.length tc) rfl
  have y1 := bxc x0 1 (.slice a1 a2 a3) rfl
  have y2 := bxc x0 2 (.bool b1) rfl
  have y3 := bxc x0 3 (.slice a4 a5 a6) rfl
  have y4 := bxc x0 4 (.bool b2) rfl
  generalize dot f (X.map (fun x => x * m)) = D at *
  clear hval hlen b0 x0 hL hf hq HT hX h9
  go_enter Tryz.func40, Tryz.ntmps40
  go_wp2_with fail
  generalize w.alloc (Obj.cells #[.slice ta X.length tc, .slice a1 a2 a3, .bool b1, .slice a4 a5 a6, .bool b2] 71) = W at *
  have HSUM2 := hid (fun (Y : World) (bY : Below W.heap.size W Y) => HSUM.out Y (chain2 HB0.out bY))
  go_region_with (first
    | (have gk1 := nS; have gk2 := nM; go_at_call 67; refine (q_cmp _ _ _ D (m * (n : Rat)) 330000 (by omega) ((by first | exact nS | exact nS.below (Below.refl _ _).drew | exact nS.below (below_dn (Below.refl _ _) _)) : QIs _ _ _ _) ((by first | exact nM | exact nM.below (Below.refl _ _).drew | exact nM.below (below_dn (Below.refl _ _) _)) : QIs _ _ _ _)).mono ?_; rintro e Y9 ⟨rfl, b9⟩; have bC' : Below W.heap.size W Y9 := (by first | exact chain2 bM' b9 | exact chain2 bO' b9 | exact chain2 bS' b9 | exact ⟨b9.os, b9.tape, b9.output, b9.size, b9.block⟩))
    | (have gk := nO; go_at_call 68; refine (q_mul _ _ _ m (n : Rat) 5100 (by omega) (HQ.out.below (by first | exact Below.refl _ _ | exact (Below.refl _ _).drew | exact below_dn (Below.refl _ _) _ | exact bS' | exact bS'.drew | exact bO' | exact bO'.drew | exact bM' | exact bM'.drew)) ((by first | exact nO | exact nO.below (Below.refl _ _).drew | exact nO.below (below_dn (Below.refl _ _) _)) : QIs _ _ _ _)).mono ?_; rintro e YM ⟨vM, rfl, nM', bm⟩; (try have nS := nS.below bm); have bM' : Below W.heap.size W YM := (by first | exact chain2 bM' bm | exact chain2 bO' bm | exact chain2 bS' bm | exact ⟨bm.os, bm.tape, bm.output, bm.size, bm.block⟩); have nM := nM'.mono (show 2 * 5100 + 12 ≤ 330000 by omega); clear nO; have ym := box_below bM' HBX.out (lt_of_block HBX.out); have ym0 := bxc ym 0 (.slice ta X.length tc) rfl; have ym1 := bxc ym 1 (.slice a1 a2 a3) rfl; have ym2 := bxc ym 2 (.bool b1) rfl; have ym3 := bxc ym 3 (.slice a4 a5 a6) rfl; have ym4 := bxc ym 4 (.bool b2) rfl; clear ym)
    | (go_at_call 69; refine (q_of _ n hn.1 hn.2).mono ?_; rintro e YO ⟨vO, rfl, nO', bo⟩; (try have nS := nS.below bo); have bO' : Below W.heap.size W YO := (by first | exact chain2 bM' bo | exact chain2 bO' bo | exact chain2 bS' bo | exact ⟨bo.os, bo.tape, bo.output, bo.size, bo.block⟩); have nO := nO'.mono (show 2 ≤ 5100 by omega); have yo := box_below bO' HBX.out (lt_of_block HBX.out); have yo0 := bxc yo 0 (.slice ta X.length tc) rfl; have yo1 := bxc yo 1 (.slice a1 a2 a3) rfl; have yo2 := bxc yo 2 (.bool b1) rfl; have yo3 := bxc yo 3 (.slice a4 a5 a6) rfl; have yo4 := bxc yo 4 (.bool b2) rfl; clear yo)
    | (go_at_call 66; refine (HSUM2.out _ (by first | exact Below.refl _ _ | exact (Below.refl _ _).drew | exact below_dn (Below.refl _ _) _ | exact bS' | exact bS'.drew | exact bO' | exact bO'.drew | exact bM' | exact bM'.drew)).mono ?_; rintro e YS ⟨vS, rfl, nS, bs⟩; (try have nO := nO.below bs); (try have nM := nM.below bs); have bS' : Below W.heap.size W YS := (by first | exact chain2 bM' bs | exact chain2 bO' bs | exact chain2 bS' bs | exact ⟨bs.os, bs.tape, bs.output, bs.size, bs.block⟩); have ys := box_below bS' HBX.out (lt_of_block HBX.out); have ys0 := bxc ys 0 (.slice ta X.length tc) rfl; have ys1 := bxc ys 1 (.slice a1 a2 a3) rfl; have ys2 := bxc ys 2 (.bool b1) rfl; have ys3 := bxc ys 3 (.slice a4 a5 a6) rfl; have ys4 := bxc ys 4 (.bool b2) rfl; clear ys))
  all_goals
    have BF := chain2 HB0.out bC'
    go_wp2
    go_ret
    exact ⟨rfl, by first | exact BF | exact BF.drew | exact below_dn BF _⟩
end Go.Proofs.YtbdhanlenekdhaaGreatDoor
/- cert: keeps. -/
namespace Go.Proofs.YtbdhanlenekdhaaGreatDoor
open Go.RowKit
set_option linter.unusedVariables false
set_option maxRecDepth 100000
set_option linter.unusedSimpArgs false

set_option maxHeartbeats 12800000 in
theorem keeps_any (w : World) (tv p1 p2 p3 p4 rv ev bv cv : Value) (X : List Rat) (P : Prb) (kv : Value) (b : List Int) (hl : LIs w tv p1 p2 p3 p4 X) (hp : IsPrb w rv ev bv cv P) (hk : Ints w kv b) (hr : Rl w) (hM : ∀ r ∈ P.rows, r.length = X.length) (hEr : P.rel.length = P.rows.length) (hBr : b.length = P.rows.length) (h9 : ∀ r ∈ P.rows, In9 r) (hb9 : In9 b) (hrl : P.rows.length ≤ 64) (R : Bool) (hR : R = true ↔ nng X ∧ gps P.rows P.rel X b) :
    Calls Tryz.prog 50 #[.agg #[tv, p1, p2, p3, p4], .agg #[rv, ev, bv, cv], kv] w fun e w' => e = .returned (.bool R) ∧ Below w.heap.size w w' := by
  obtain ⟨ta, tc, a1, a2, a3, b1, a4, a5, a6, b2, rfl, rfl, rfl, rfl, rfl, hlc, hcm⟩ := hl.form
  obtain ⟨ra, rc, rfl, rl, rm⟩ := hp.rows.slice
  obtain ⟨ea, ec, rfl, el, em⟩ := hp.rel.slice
  obtain ⟨ba, bc, rfl, bl, bm⟩ := hp.b.slice
  obtain ⟨ca, cc, rfl, cl, cm⟩ := hp.c.slice
  obtain ⟨ka, kc, rfl, kl, km⟩ := hk.slice
  unfold maxLen at rm em bm cm km
  have HCL := hid hl
  obtain ⟨m, base, C, hm0, hm, h64, hX, hq, hL⟩ := hl
  have hlen : (X.map (fun x => x * m)).length = X.length := by simp
  have HL := hid hL
  have HLEN := hid hlen
  have HM := hid hm0
  have HP := hid hp
  have HK := hid hk
  have HR := hid hr
  have HER := hid hEr
  have HBR := hid hBr
  have HMX := hid hM
  have H9 := hid h9
  have HB9 := hid hb9
  have HRF := hid (fun hh : ¬ nng X => bool_no hR (fun ⟨h1, _⟩ => hh h1))
  have HRR := hid hR
  clear hlen hL hq hp hk hr hX hm hEr hBr hM h9 hb9 hR hm0
  have b0 := boxed2 (Below.refl w.heap.size w) (Obj.cells #[.slice ta X.length tc, .slice a1 a2 a3, .bool b1, .slice a4 a5 a6, .bool b2] 71) (Obj.cells #[.slice ra P.rows.length rc, .slice ea P.rel.length ec, .slice ba P.b.length bc, .slice ca P.c.length cc] 25)
  have x0 := boxed2_first w (Obj.cells #[.slice ta X.length tc, .slice a1 a2 a3, .bool b1, .slice a4 a5 a6, .bool b2] 71) (Obj.cells #[.slice ra P.rows.length rc, .slice ea P.rel.length ec, .slice ba P.b.length bc, .slice ca P.c.length cc] 25)
  have z0 := boxed2_second w (Obj.cells #[.slice ta X.length tc, .slice a1 a2 a3, .bool b1, .slice a4 a5 a6, .bool b2] 71) (Obj.cells #[.slice ra P.rows.length rc, .slice ea P.rel.length ec, .slice ba P.b.length bc, .slice ca P.c.length cc] 25)
  have y0 := bxc x0 0 (.slice ta X.length tc) rfl
  have HX0 := hid x0
  have HZ0 := hid z0
  clear x0 z0
  go_enter Tryz.func50, Tryz.ntmps50
  go_wp2
  generalize (w.alloc (Obj.cells #[.slice ta X.length tc, .slice a1 a2 a3, .bool b1, .slice a4 a5 a6, .bool b2] 71)).alloc (Obj.cells #[.slice ra P.rows.length rc, .slice ea P.rel.length ec, .slice ba P.b.length bc, .slice ca P.c.length cc] 25) = W0 at *
  go_loopw [14] (fun i wr => ∃ k : Nat, k ≤ X.length ∧ i = .int .i64 (k : Int) ∧ Hid (wr.heap[w.heap.size]? = some (.cells #[.slice ta X.length tc, .slice a1 a2 a3, .bool b1, .slice a4 a5 a6, .bool b2] 71 (0, 0))) ∧ Hid (wr.heap[w.heap.size + 1]? = some (.cells #[.slice ra P.rows.length rc, .slice ea P.rel.length ec, .slice ba P.b.length bc, .slice ca P.c.length cc] 25 (0, 0))) ∧ Hid (nngK X k) ∧ Below w.heap.size w wr) (fun i _ => X.length - (intOf i).toNat)
  case atStart => exact ⟨0, Nat.zero_le _, rfl, HX0, HZ0, fun i _ h => by omega, b0⟩
  case round =>
    obtain ⟨k, hk, rfl, HLB, HPB, HSG, bw⟩ := hrel
    by_cases hlt : k < X.length
    · skip
      obtain ⟨g, c', u0, u1, u2, u3, e, _, q0, q1, q2, q3, hq⟩ := (Ls.below (fun h b => h.below b) HL.out bw).at k (by rw [HLEN.out]; exact hlt)
      simp only [Value.slice.injEq] at e
      obtain ⟨rfl, -, rfl⟩ := e
      obtain ⟨s1, s2, s3, s4, s5, s6, s7, s8, hs⟩ := hq.form
      simp only [Value.agg.injEq, Array.mk.injEq, List.cons.injEq, and_true] at hs
      obtain ⟨rfl, rfl, rfl, rfl⟩ := hs
      have bA := (Below.refl wr.heap.size wr).alloc (Nat.le_refl _) (Obj.cells #[.slice s1 s2 s3, .bool s4, .slice s5 s6 s7, .bool s8] 69)
      have BA := below_alloc' bw (Nat.le_refl _) (Obj.cells #[.slice s1 s2 s3, .bool s4, .slice s5 s6 s7, .bool s8] 69)
      have pA := box_alloc HPB.out (Obj.cells #[.slice s1 s2 s3, .bool s4, .slice s5 s6 s7, .bool s8] 69)
      have lA := box_alloc HLB.out (Obj.cells #[.slice s1 s2 s3, .bool s4, .slice s5 s6 s7, .bool s8] 69)
      have nA := box_new wr (Obj.cells #[.slice s1 s2 s3, .bool s4, .slice s5 s6 s7, .bool s8] 69)
      have hsg : sgnR ((X.map (fun x => x * m))[k]'(by rw [HLEN.out]; exact hlt)) = sgnR X[k] := by rw [List.getElem_map]; exact sgn_scale HM.out
      have HQ := hid (hq.below bA)
      have HYT := hid (fun hh : decide (sgnR X[k] < 0) = false => nn_succ HSG.out hlt (sgR_nn hh))
      have HNT := hid (fun hh : decide (sgnR X[k] < 0) = true => show R = false from HRF.out (fun hn => absurd (hn k hlt) (Rat.not_le.2 (sgR_neg hh))))
      have HSN := hid (q_sign _ _ _ 5100 (by omega) HQ.out)
      rw [hsg] at HSN
      clear hq bA hsg
      generalize sgnR X[k] = sk at *
      go_wp2_with (refine wpList_store_fresh rfl 69 _ _ rfl _ _ _ rfl (by simp) rfl 4 info_Rat (by rfl) (by rfl) (by simp [Value.oneCell']) ?_)
      clear q0 q1 q2 q3
      generalize wr.alloc (Obj.cells #[.slice s1 s2 s3, .bool s4, .slice s5 s6 s7, .bool s8] 69) = W3 at *
      generalize wr.heap.size = nb at *
      obtain ⟨t0, t1, t2, t3⟩ := four_cell nA
      have HPA := hid pA
      have HLA := hid lA
      clear pA lA nA
      go_wp2_with fail
      refine HSN.out.mono ?_
      rintro e YS ⟨rfl, bS⟩
      have BF : Below w.heap.size w YS := BA.trans (bS.mono BA.size)
      have HPF := hid (box_below bS HPA.out (lt_of_block HPA.out))
      have HLF := hid (box_below bS HLA.out (lt_of_block HLA.out))
      clear t0 t1 t2 t3 bS
      cases hcr : decide (sk < 0) with
      | true =>
        have HSF := hid (HNT.out hcr)
        go_wp2
        go_ret
        exact ⟨by rw [HSF.out]; rfl, BF⟩
      | false =>
        have HSF := hid (HYT.out hcr)
        go_wp2
        go_roundw
        case rel => exact ⟨k + 1, by omega, by go_num, HLF, HPF, HSF, BF⟩
        case measure => simp [intOf]; omega
    · obtain rfl : k = X.length := by omega
      have HS1 := hid (show nng X from fun i k1 => HSG.out i k1 k1)
      have HRT := hid (fun hh : gps P.rows P.rel X b => show R = true from HRR.out.2 ⟨HS1.out, hh⟩)
      have HRN := hid (fun hh : ¬ gps P.rows P.rel X b => bool_no HRR.out (fun ⟨_, h2⟩ => hh h2))
      have pr := bxc HPB.out 0 (.slice ra P.rows.length rc) rfl
      clear HRF HSG HL HLEN HRR
      go_wp2
      generalize wr = W1 at *
      go_loopw [25] (fun i wr => ∃ j : Nat, j ≤ P.rows.length ∧ i = .int .i64 (j : Int) ∧ Hid (wr.heap[w.heap.size]? = some (.cells #[.slice ta X.length tc, .slice a1 a2 a3, .bool b1, .slice a4 a5 a6, .bool b2] 71 (0, 0))) ∧ Hid (wr.heap[w.heap.size + 1]? = some (.cells #[.slice ra P.rows.length rc, .slice ea P.rel.length ec, .slice ba P.b.length bc, .slice ca P.c.length cc] 25 (0, 0))) ∧ Hid (gpsK P.rows P.rel X b j) ∧ Below w.heap.size w wr) (fun i _ => P.rows.length - (intOf i).toNat)
      case atStart => exact ⟨0, Nat.zero_le _, rfl, HLB, HPB, fun i _ _ _ h => by omega, bw⟩
      case round =>
        obtain ⟨j, hj, rfl, HLB, HPB, HCV, bw⟩ := hrel
        by_cases hlt : j < P.rows.length
        · skip
          obtain ⟨rb, ro, rcap, ru, re, rcell, hru⟩ := (HP.out.rows.below bw).at j hlt
          simp only [Value.slice.injEq] at re
          obtain ⟨rfl, -, rfl⟩ := re
          have hjb : j < b.length := by rw [HBR.out]; exact hlt
          have hje : j < P.rel.length := by rw [HER.out]; exact hlt
          obtain ⟨kb, ko, kd, ek, _, _, fk⟩ := (HK.out.below bw).at j hjb
          simp only [Value.slice.injEq] at ek
          obtain ⟨rfl, -, rfl⟩ := ek
          obtain ⟨eb, eo, ed, ee, _, _, ff⟩ := (HP.out.rel.below bw).at j hje
          simp only [Value.slice.injEq] at ee
          obtain ⟨rfl, -, rfl⟩ := ee
          have hrow := HMX.out _ (List.getElem_mem hlt)
          have HCMP := hid (fun (Y : World) (bY : Below wr.heap.size wr Y) => compare_any Y _ _ _ _ _ X ru P.rows[j] b[j] ((HCL.out.below bw).below bY) (hru.below bY) (H9.out _ (List.getElem_mem hlt)) (by rw [hrow]; exact Nat.le_refl _) (HB9.out _ (List.getElem_mem hjb)))
          have HYES := hid (fun hh : gapT (plN P.rel[j]) (plN (cmpR (dot P.rows[j] X) (b[j] : Rat))) = true => gp_succ HCV.out hlt hje hjb hh)
          have HNO := hid (fun hh : gapT (plN P.rel[j]) (plN (cmpR (dot P.rows[j] X) (b[j] : Rat))) = false => HRN.out (fun hg => by have := hg j hlt hje hjb; rw [hh] at this; cases this))
          have hr3 := plN_lt P.rel[j]
          have hs3 := plN_lt (cmpR (dot P.rows[j] X) (b[j] : Rat))
          have HRA := hid (HR.out.below bw)
          have cy := HRA.out.gap (plN P.rel[j]) (plN (cmpR (dot P.rows[j] X) (b[j] : Rat))) hr3 hs3
          obtain ⟨ua, uc, hue, _, hum⟩ := hru.slice
          subst hue
          clear HCV hru hrow
          generalize cmpR (dot P.rows[j] X) (b[j] : Rat) = cr at *
          generalize b[j] = bj at *
          generalize P.rel[j] = rk at *
          generalize P.rows[j].length = rowl at *
          have y0 := bxc HLB.out 0 (.slice ta X.length tc) rfl
          have y1 := bxc HLB.out 1 (.slice a1 a2 a3) rfl
          have y2 := bxc HLB.out 2 (.bool b1) rfl
          have y3 := bxc HLB.out 3 (.slice a4 a5 a6) rfl
          have y4 := bxc HLB.out 4 (.bool b2) rfl
          have pe := bxc HPB.out 1 (.slice (some ⟨eb, eo, none⟩) P.rel.length ec) rfl
          have HPL := hid (fun (n : Int) (Y : World) => place_any n Y)
          have hi1 : ((plN rk : Nat) : Int) < 3 := by omega
          have hi2 : (0 : Int) ≤ ((plN rk : Nat) : Int) := by omega
          have hi3 : ((plN cr : Nat) : Int) < 3 := by omega
          have hi4 : (0 : Int) ≤ ((plN cr : Nat) : Int) := by omega
          have F0 : Below wr.heap.size wr wr.drew := below_drew1 wr
          have HKx := hid (fun (Y : World) (k : Below wr.heap.size wr Y) => show (Y.cell? ⟨w.heap.size, 0, none⟩ = some (.slice ta X.length tc) ∧ Y.cell? ⟨w.heap.size, 1, none⟩ = some (.slice a1 a2 a3) ∧ Y.cell? ⟨w.heap.size, 2, none⟩ = some (.bool b1) ∧ Y.cell? ⟨w.heap.size, 3, none⟩ = some (.slice a4 a5 a6) ∧ Y.cell? ⟨w.heap.size, 4, none⟩ = some (.bool b2) ∧ Y.cell? ⟨w.heap.size + 1, 1, none⟩ = some (.slice (some ⟨eb, eo, none⟩) P.rel.length ec) ∧ Y.cell? ⟨eb, eo + j, none⟩ = some (.int .i64 rk) ∧ Y.cell? ⟨kb, ko + j, none⟩ = some (.int .i64 bj) ∧ Y.cell? ⟨0, plN rk * 6 + plN cr, none⟩ = some (.bool (gapT (plN rk) (plN cr)))) from ⟨kc' k y0, kc' k y1, kc' k y2, kc' k y3, kc' k y4, kc' k pe, kc' k ff, kc' k fk, kc' k cy⟩)
          go_wp2_with fail
          go_region_held3 (fun Z => Z.cell? ⟨w.heap.size, 0, none⟩ = some (.slice ta X.length tc) ∧ Z.cell? ⟨w.heap.size, 1, none⟩ = some (.slice a1 a2 a3) ∧ Z.cell? ⟨w.heap.size, 2, none⟩ = some (.bool b1) ∧ Z.cell? ⟨w.heap.size, 3, none⟩ = some (.slice a4 a5 a6) ∧ Z.cell? ⟨w.heap.size, 4, none⟩ = some (.bool b2) ∧ Z.cell? ⟨w.heap.size + 1, 1, none⟩ = some (.slice (some ⟨eb, eo, none⟩) P.rel.length ec) ∧ Z.cell? ⟨eb, eo + j, none⟩ = some (.int .i64 rk) ∧ Z.cell? ⟨kb, ko + j, none⟩ = some (.int .i64 bj) ∧ Z.cell? ⟨0, plN rk * 6 + plN cr, none⟩ = some (.bool (gapT (plN rk) (plN cr)))) (first | exact HKx.out _ F1 | exact HKx.out _ F0) (first
            | (go_at_call 40; have gk := F0; refine (HCMP.out _ F0).mono ?_; rintro e YS ⟨rfl, bb⟩; have F1 := chain2 F0 bb)
            | (go_at_call 63; refine (HPL.out _ _).mono ?_; rintro e Z ⟨rfl, hZ⟩; subst hZ))
          have BF := bw.trans (F1.mono bw.size)
          have HPF := hid (box_below F1 HPB.out (lt_of_block HPB.out))
          have HLF := hid (box_below F1 HLB.out (lt_of_block HLB.out))
          clear y0 y1 y2 y3 y4 pe ff cy fk rcell HKx HCMP HPL
          generalize gapT (plN rk) (plN cr) = gg at *
          cases gg with
          | true =>
            have HSF := hid (HYES.out rfl)
            go_wp2
            go_roundw
            case rel => exact ⟨j + 1, by omega, by go_num, HLF, HPF, HSF, by first | exact BF | exact BF.drew | exact below_dn BF _⟩
            case measure => simp [intOf]; omega
          | false =>
            have HSF := hid (HNO.out rfl)
            go_wp2
            go_ret
            exact ⟨by rw [HSF.out]; rfl, by first | exact BF | exact BF.drew | exact below_dn BF _⟩
        · obtain rfl : j = P.rows.length := by omega
          have HF := hid (HRT.out (fun i h1 h2 h3 => HCV.out i h1 h2 h3 h1))
          go_wp2
          go_ret
          exact ⟨by rw [HF.out]; rfl, bw⟩
end Go.Proofs.YtbdhanlenekdhaaGreatDoor
