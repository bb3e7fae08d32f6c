/- cert: the document: Ray, Optimal. -/
import Derived.Test.YtbdhanlenekdhaaGreatDoorPk42
namespace Go.Proofs.YtbdhanlenekdhaaGreatDoor
open Go.RowKit
set_option linter.unusedVariables false
set_option maxRecDepth 100000
set_option linter.unusedSimpArgs false

theorem bb_zero (n j : Nat) (h : j < (List.replicate n (0 : Int)).length) : (List.replicate n (0 : Int))[j] = 0 := by simp
set_option maxHeartbeats 25600000 in
theorem hRay_any (w : World) (rv ev bv cv sv dv : Value) (P : Prb) (S D : List ByteArray) (hp : IsPrb w rv ev bv cv P) (hs : Strs w sv S) (hsz : chk P = 0 → ∀ s ∈ S, s.size ≤ 600) (hd : Strs w dv D) (hdz : chk P = 0 → ∀ s ∈ D, s.size ≤ 600) (R : Bool) (hR : R = true ↔ RayS P S D) :
    Calls Tryz.prog 29 #[.agg #[rv, ev, bv, cv], sv, dv] w fun e w' => e = .returned (.bool R) ∧ Below w.heap.size w w' := by
  obtain ⟨ra, rc, rfl, rl, rm⟩ := hp.rows.slice
  obtain ⟨ea, ec, rfl, el, em⟩ := hp.rel.slice
  obtain ⟨ba, bc, rfl, bl, bm⟩ := hp.b.slice
  obtain ⟨ca, cc, rfl, cl, cm⟩ := hp.c.slice
  obtain ⟨sa, sc, rfl, sl, sm⟩ := hs.slice
  obtain ⟨da, dc, rfl, dl, dm⟩ := hd.slice
  unfold maxLen at rm em bm cm sm dm
  have b0 := (Below.refl w.heap.size w).alloc (Nat.le_refl _) (Obj.cells #[.slice ra P.rows.length rc, .slice ea P.rel.length ec, .slice ba P.b.length bc, .slice ca P.c.length cc] 32)
  have x0 := box_new w (Obj.cells #[.slice ra P.rows.length rc, .slice ea P.rel.length ec, .slice ba P.b.length bc, .slice ca P.c.length cc] 32)
  have y0 := bxc x0 0 (.slice ra P.rows.length rc) rfl
  have y1 := bxc x0 1 (.slice ea P.rel.length ec) rfl
  have y2 := bxc x0 2 (.slice ba P.b.length bc) rfl
  have y3 := bxc x0 3 (.slice ca P.c.length cc) rfl
  have HPB := hid x0
  have HP := hid (hp.below b0)
  have HB0 := hid b0
  have HS := hid (hs.below b0)
  have HSZ := hid hsz
  have HD := hid (hd.below b0)
  have HDZ := hid hdz
  have HR0 := hid hR
  clear hp hs b0 x0 hsz hR hd hdz
  go_enter Tryz.func29, Tryz.ntmps29
  go_wp2_with fail
  generalize w.alloc (Obj.cells #[.slice ra P.rows.length rc, .slice ea P.rel.length ec, .slice ba P.b.length bc, .slice ca P.c.length cc] 32) = W at *
  refine (hread_any W _ _ _ _ _ P D P.c.length HP.out HD.out HDZ.out (fun hh => by have := (chk_ok hh).b; have := (chk_ok hh).rl; have := (chk_ok hh).cl; omega) (by omega)).mono ?_
  rintro e X1 ⟨hr, bX1⟩
  clear y0 y1 y2 y3
  have B1 := chain2 HB0.out bX1
  have HPK := hid (box_below bX1 HPB.out (lt_of_block HPB.out))
  rcases hr with ⟨hck, hln, X, tv, base, C, hnu, rfl, hl⟩ | ⟨hno, rfl⟩
  · obtain ⟨ta, tc, rfl, _, _⟩ := hl.slice
    have y0 := bxc HPK.out 0 (.slice ra P.rows.length rc) rfl
    have y1 := bxc HPK.out 1 (.slice ea P.rel.length ec) rfl
    have y2 := bxc HPK.out 2 (.slice ba P.b.length bc) rfl
    have y3 := bxc HPK.out 3 (.slice ca P.c.length cc) rfl
    obtain ⟨RF, hRF⟩ := boolOf (FeaS P S)
    have hRd : R = true ↔ RF = true ∧ (nng X ∧ gps P.rows P.rel X (List.replicate P.b.length 0)) ∧ decide (0 < sgnR (dot P.c X)) = true := by
      rw [sgn_gt_iff, hRF]
      exact HR0.out.trans ⟨fun ⟨h1, h2, Y, h3, h4⟩ => by rw [hnu.uniq h3]; exact ⟨h1, h4⟩, fun ⟨h1, h4⟩ => ⟨h1, hln, X, hnu, h4⟩⟩
    have HFEA := hid (hFeasible_any X1 _ _ _ _ _ P S (HP.out.below bX1) (HS.out.below bX1) HSZ.out RF hRF)
    have HTIM := hid (fun (Y : World) (bY : Below X1.heap.size X1 Y) => hTimes_any Y _ X base C _ P.c (hnu.lt (HDZ.out hck)) (by rw [hnu.len, hln]; exact (chk_ok hck).cl) (Ls.below (fun h b => h.below b) hl bY) ((HP.out.c.below bX1).below bY) (chk_ok hck).c9 (by rw [hnu.len, hln]; exact Nat.le_refl _))
    have HSIG := hid (fun (Y : World) (v : Value) (hv : TIs Y v (dot P.c X) 6000) => t_sign Y v _ _ (by omega) hv)
    have HOK := hid (chk_ok hck)
    have HX7 := hid (hnu.lt (HDZ.out hck))
    have HX64 := hid (show X.length ≤ 64 by rw [hnu.len, hln]; exact (chk_ok hck).cl)
    have HXL := hid (show X.length = P.c.length by rw [hnu.len, hln])
    have HLX0 := hid hl
    have HP0 := hid (HP.out.below bX1)
    have HRD := hid hRd
    clear hl hnu hck hln hRF hRd HR0 HB0 bX1
    generalize sgnR (dot P.c X) = sg at *
    generalize dot P.c X = DD at *
    cases RF with
    | false =>
      have HF := hid (show R = false from bool_no HRD.out (fun ⟨h, _⟩ => by cases h))
      go_wp2_with fail
      refine HFEA.out.mono ?_
      rintro e X2 ⟨rfl, bX2⟩
      have B2 := chain2 B1 bX2
      clear bX2 y0 y1 y2 y3
      go_wp2
      go_ret
      exact ⟨by rw [HF.out]; rfl, B2⟩
    | true =>
      go_wp2_with fail
      refine HFEA.out.mono ?_
      rintro e X2 ⟨rfl, bX2⟩
      have HP2 := hid (box_below bX2 HPK.out (lt_of_block HPK.out))
      have HT2 := hid (HTIM.out X2 bX2)
      have HBB := hid bX2
      clear y0 y1 y2 y3 bX2
      have y0 := bxc HP2.out 0 (.slice ra P.rows.length rc) rfl
      have y1 := bxc HP2.out 1 (.slice ea P.rel.length ec) rfl
      have y2 := bxc HP2.out 2 (.slice ba P.b.length bc) rfl
      have y3 := bxc HP2.out 3 (.slice ca P.c.length cc) rfl
      go_wp2_with fail
      refine HT2.out.mono ?_
      rintro e X3 ⟨v3, rfl, n3, bX3⟩
      have HS3 := hid (HSIG.out X3 _ n3)
      have HP3 := hid (box_below bX3 HP2.out (lt_of_block HP2.out))
      have HB3 := hid (chain2 HBB.out bX3)
      obtain ⟨d1, d2, d3, d4, d5, d6, d7, d8, rfl⟩ := n3.form
      clear bX3 n3 y0 y1 y2 y3
      go_wp2_with fail
      refine HS3.out.mono ?_
      rintro e X4 ⟨rfl, bX4⟩
      have HP4 := hid (box_below bX4 HP3.out (lt_of_block HP3.out))
      have HB4 := hid (chain2 HB3.out bX4)
      have BF4 := hid (chain2 B1 HB4.out)
      clear bX4
      cases hsg : decide (0 < sg) with
      | false =>
        have hsg2 : decide (sg ≤ 0) = true := by simp at hsg ⊢; omega
        have HF := hid (show R = false from bool_no HRD.out (fun ⟨_, _, h⟩ => by rw [hsg] at h; cases h))
        go_wp2
        go_ret
        exact ⟨by rw [HF.out]; rfl, BF4.out⟩
      | true =>
        have hsg2 : decide (sg ≤ 0) = false := by simp at hsg ⊢; omega
        have HRR := hid (show R = true ↔ nng X ∧ gps P.rows P.rel X (List.replicate P.b.length 0) from HRD.out.trans ⟨fun ⟨_, h, _⟩ => h, fun h => ⟨by trivial, h, hsg⟩⟩)
        have HRF := hid (fun hh : ¬ nng X => bool_no HRR.out (fun ⟨h1, _⟩ => hh h1))
        have HP5 := hid (HP0.out.below HB4.out)
        have HLX := hid (Ls.below (fun h b => h.below b) HLX0.out HB4.out)
        have HBBL0 := hid (show (List.replicate P.b.length (0 : Int)).length = P.rows.length by rw [List.length_replicate]; exact HOK.out.b)
        have HBB00 := hid (bb_zero P.b.length)
        go_wp2
        clear HP HS HD HPB HPK HP2 HP3 HT2 HS3 HB3 HBB HRD HSIG HTIM HFEA HP0 HLX0 HB4 B1 hsg hsg2
        have HP := HP5
        have HPK := HP4
        have HB0 := BF4
        clear HP5 HP4 BF4
        generalize X4 = W at *
        generalize List.replicate P.b.length (0 : Int) = bb at *
        have HBBL := HBBL0
        have HBB0 := HBB00
        have bw : Below W.heap.size W W := Below.refl _ _
        clear HBBL0 HBB00
        go_loopw [9] (fun i wr => ∃ k : Nat, k ≤ X.length ∧ i = .int .i64 (k : Int) ∧ Hid (wr.heap[w.heap.size]? = some (.cells #[.slice ra P.rows.length rc, .slice ea P.rel.length ec, .slice ba P.b.length bc, .slice ca P.c.length cc] 32 (0, 0))) ∧ Hid (nngK X k) ∧ Below W.heap.size W wr) (fun i _ => X.length - (intOf i).toNat)
        case atStart => exact ⟨0, Nat.zero_le _, rfl, HPK, fun i _ h => by omega, bw⟩
        case round =>
          clear bw HPK
          obtain ⟨k, hk, rfl, HPK, HSG, bw⟩ := hrel
          have BW := hid (chain2 HB0.out bw)
          by_cases hlt : k < X.length
          · skip
            obtain ⟨g, c', u0, u1, u2, u3, e, _, q0, q1, q2, q3, hq⟩ := (Ls.below (fun h b => h.below b) HLX.out bw).at k hlt
            simp only [Value.slice.injEq] at e
            obtain ⟨rfl, -, rfl⟩ := e
            obtain ⟨s1, s2, s3, s4, s5, s6, s7, s8, hs⟩ := hq.form
            simp only [Value.agg.injEq, Array.mk.injEq, List.cons.injEq, and_true] at hs
            obtain ⟨rfl, rfl, rfl, rfl⟩ := hs
            have HYT := hid (fun hh : decide (sgnR X[k] < 0) = false => nn_succ HSG.out hlt (sgR_nn hh))
            have HNT := hid (fun hh : decide (sgnR X[k] < 0) = true => show R = false from HRF.out (fun hn => absurd (hn k hlt) (Rat.not_le.2 (sgR_neg hh))))
            have HSN := hid (t_sign wr _ _ 5100 (by omega) hq)
            clear hq HSG
            generalize sgnR X[k] = sk at *
            go_wp2_with fail
            refine HSN.out.mono ?_
            rintro e X2 ⟨rfl, bX2⟩
            have B2 := chain2 bw bX2
            have HP2 := hid (box_below bX2 HPK.out (lt_of_block HPK.out))
            have BF := hid (chain2 BW.out bX2)
            clear bX2 q0 q1 q2 q3
            cases hcr : decide (sk < 0) with
            | true =>
              have HSF := hid (HNT.out hcr)
              go_wp2
              go_ret
              exact ⟨by rw [HSF.out]; rfl, BF.out⟩
            | false =>
              have HSF := hid (HYT.out hcr)
              go_wp2
              go_roundw
              case rel => exact ⟨k + 1, by omega, by go_num, HP2, HSF, B2⟩
              case measure => simp [intOf]; omega
          · obtain rfl : k = X.length := by omega
            have HS1 := hid (show nng X from fun i k1 => HSG.out i k1 k1)
            have HRT := hid (fun hh : gps P.rows P.rel X bb => show R = true from HRR.out.2 ⟨HS1.out, hh⟩)
            have HRN := hid (fun hh : ¬ gps P.rows P.rel X bb => bool_no HRR.out (fun ⟨_, h2⟩ => hh h2))
            have pr := bxc HPK.out 0 (.slice ra P.rows.length rc) rfl
            clear HRF HSG BW
            go_wp2
            generalize wr = W1 at *
            clear pr
            go_loopw [10] (fun i wr => ∃ j : Nat, j ≤ P.rows.length ∧ i = .int .i64 (j : Int) ∧ Hid (wr.heap[w.heap.size]? = some (.cells #[.slice ra P.rows.length rc, .slice ea P.rel.length ec, .slice ba P.b.length bc, .slice ca P.c.length cc] 32 (0, 0))) ∧ Hid (gpsK P.rows P.rel X bb j) ∧ Below W.heap.size W wr) (fun i _ => P.rows.length - (intOf i).toNat)
            case atStart => exact ⟨0, Nat.zero_le _, rfl, HPK, fun i _ _ _ h => by omega, bw⟩
            case round =>
              clear bw HPK
              obtain ⟨j, hj, rfl, HPK, HCV, bw⟩ := hrel
              have BW := hid (chain2 HB0.out bw)
              by_cases hlt : j < P.rows.length
              · obtain ⟨rb, ro, rcap, ru, re, rcell, hru⟩ := (HP.out.rows.below bw).at j hlt
                simp only [Value.slice.injEq] at re
                obtain ⟨rfl, -, rfl⟩ := re
                have hje : j < P.rel.length := by rw [HOK.out.rel]; exact hlt
                have hjb : j < bb.length := by rw [HBBL.out]; exact hlt
                obtain ⟨eb, eo, ed, ee, _, _, ff⟩ := (HP.out.rel.below bw).at j hje
                simp only [Value.slice.injEq] at ee
                obtain ⟨rfl, -, rfl⟩ := ee
                have HTIM := hid (fun (Y : World) (bY : Below wr.heap.size wr Y) => hTimes_any Y _ X base C ru P.rows[j] HX7.out HX64.out (Ls.below (fun h b => h.below b) HLX.out (chain2 bw bY)) (hru.below bY) (HOK.out.r9 _ (List.getElem_mem hlt)) (by rw [HOK.out.c _ (List.getElem_mem hlt), HXL.out]; exact Nat.le_refl _))
                have HYES := hid (fun hh : gapT (plN P.rel[j]) (plN (cmpR (dot P.rows[j] X) (bb[j] : Rat))) = true => gp_succ HCV.out hlt hje hjb hh)
                have HNO := hid (fun hh : gapT (plN P.rel[j]) (plN (cmpR (dot P.rows[j] X) (bb[j] : Rat))) = false => HRN.out (fun hg => by have := hg j hlt hje hjb; rw [hh] at this; cases this))
                have hz : (bb[j] : Rat) = 0 := by have := HBB0.out j hjb; rw [this]; rfl
                have HSIG := hid (fun (Y : World) (v : Value) (hv : TIs Y v (dot P.rows[j] X) 6000) => t_sign Y v _ _ (by omega) hv)
                rw [← cmp_zero, ← hz] at HSIG
                obtain ⟨ua, uc, hue, _, hum⟩ := hru.slice
                subst hue
                clear HCV hru
                generalize cmpR (dot P.rows[j] X) (bb[j] : Rat) = cr at *
                generalize P.rows[j].length = rowl at *
                generalize dot P.rows[j] X = D at *
                clear hz
                generalize P.rel[j] = rk at *
                have pr0 := bxc HPK.out 0 (.slice (some ⟨rb, ro, none⟩) P.rows.length rc) rfl
                have pe0 := bxc HPK.out 1 (.slice (some ⟨eb, eo, none⟩) P.rel.length ec) rfl
                skip
                have HST := hid (fun (s n : Int) (Y : World) => stands_any s n Y)
                have F0 : Below wr.heap.size wr wr.drew := below_drew1 wr
                have HKx := hid (fun (Y : World) (k : Below wr.heap.size wr Y) => show (Y.cell? ⟨w.heap.size, 0, none⟩ = some (.slice (some ⟨rb, ro, none⟩) P.rows.length rc) ∧ Y.cell? ⟨w.heap.size, 1, none⟩ = some (.slice (some ⟨eb, eo, none⟩) P.rel.length ec) ∧ Y.cell? ⟨rb, ro + j, none⟩ = some (.slice ua rowl uc) ∧ Y.cell? ⟨eb, eo + j, none⟩ = some (.int .i64 rk)) from ⟨kc' k pr0, kc' k pe0, kc' k rcell, kc' k ff⟩)
                go_wp2_with fail
                go_region_held3 (fun Z => Z.cell? ⟨w.heap.size, 0, none⟩ = some (.slice (some ⟨rb, ro, none⟩) P.rows.length rc) ∧ Z.cell? ⟨w.heap.size, 1, none⟩ = some (.slice (some ⟨eb, eo, none⟩) P.rel.length ec) ∧ Z.cell? ⟨rb, ro + j, none⟩ = some (.slice ua rowl uc) ∧ Z.cell? ⟨eb, eo + j, none⟩ = some (.int .i64 rk)) (first | exact HKx.out _ F2 | exact HKx.out _ F1 | exact HKx.out _ F0) (first
                  | (go_at_call 51; have gk := F1; refine (HSIG.out _ _ nT).mono ?_; rintro e YG ⟨rfl, bb⟩; have F2 := chain2 F1 bb)
                  | (go_at_call 49; have gk := F0; refine (HTIM.out _ F0).mono ?_; rintro e YT ⟨vT, rfl, nT, bb⟩; have F1 := chain2 F0 bb)
                  | (go_at_call 52; refine (HST.out _ _ _).mono ?_; rintro e Z ⟨rfl, hZ⟩; subst hZ))
                have FF := F2
                have BF := chain2 bw FF
                have BG := hid (chain2 HB0.out BF)
                have HPF := hid (box_below FF HPK.out (lt_of_block HPK.out))
                clear FF F0 HKx HST HTIM HSIG
                generalize gapT (plN rk) (plN cr) = gg at *
                cases gg with
                | true =>
                  have HSF := hid (HYES.out rfl)
                  go_wp2
                  go_roundw
                  case rel => exact ⟨j + 1, by omega, by go_num, HPF, HSF, by first | exact BF | exact BF.drew | exact below_dn BF _⟩
                  case measure => simp [intOf]; omega
                | false =>
                  have HSF := hid (HNO.out rfl)
                  go_wp2
                  go_ret
                  exact ⟨by rw [HSF.out]; rfl, by first | exact BG.out | exact BG.out.drew | exact below_dn BG.out _⟩
              · obtain rfl : j = P.rows.length := by omega
                have pr := bxc HPK.out 0 (.slice ra P.rows.length rc) rfl
                have HF := hid (HRT.out (fun i h1 h2 h3 => HCV.out i h1 h2 h3 h1))
                go_wp2
                go_ret
                exact ⟨by rw [HF.out]; rfl, BW.out⟩
  · have hne := rd_ne' P D P.c.length
    have HF := hid (bool_no HR0.out (fun ⟨⟨h0, _⟩, h2, X, h3, _⟩ => hno ⟨h0, h2, X, h3⟩))
    generalize rdE P D P.c.length = er at *
    have hne1 : (er == 0) = false := beq_eq_false_iff_ne.2 hne
    clear hno bX1
    go_wp2
    go_ret
    exact ⟨by rw [HF.out]; rfl, B1⟩
end Go.Proofs.YtbdhanlenekdhaaGreatDoor
