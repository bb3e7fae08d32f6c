/- cert: the document: signed. -/
import Derived.Test.YtbdhanlenekdhaaGreatDoorPk42
import Derived.Test.YtbdhanlenekdhaaGreatDoorPk34
import Derived.Deep.RegionHeld3
namespace Go.Proofs.YtbdhanlenekdhaaGreatDoor
open Go.RowKit
set_option linter.unusedVariables false
set_option maxRecDepth 100000
set_option linter.unusedSimpArgs false

theorem y_lt {s e : Int} (h : e < 0) : yT (plN e) (plN s) = !decide (s < 0) := by
  have : plN e = 0 := by unfold plN; rw [if_pos h]
  rw [this]
  unfold plN
  by_cases h1 : s < 0
  · rw [if_pos h1]; simp [yT]; omega
  · rw [if_neg h1]
    by_cases h2 : s = 0
    · rw [if_pos h2]; simp [yT]; omega
    · rw [if_neg h2]; simp [yT]; omega
theorem y_gt {s e : Int} (h : 0 < e) : yT (plN e) (plN s) = !decide (0 < s) := by
  have : plN e = 2 := by unfold plN; rw [if_neg (by omega), if_neg (by omega)]
  rw [this]
  unfold plN
  by_cases h1 : s < 0
  · rw [if_pos h1]; simp [yT]; omega
  · rw [if_neg h1]
    by_cases h2 : s = 0
    · rw [if_pos h2]; simp [yT]; omega
    · rw [if_neg h2]; simp [yT]; omega
theorem y_eq {s e : Int} (h : e = 0) : yT (plN e) (plN s) = true := by
  have : plN e = 1 := by unfold plN; rw [if_neg (by omega), if_pos h]
  rw [this]
  unfold plN
  (repeat' split) <;> rfl
set_option maxHeartbeats 25600000 in
theorem hsigned_any (w : World) (rv ev bv cv yv lv : Value) (P : Prb) (Y : List Rat) (base : Nat) (C : List (List Value)) (least : List Int) (hp : IsPrb w rv ev bv cv P) (hY : ∀ x ∈ Y, Lt10 700 x) (hL : TLs w base yv C Y 5100) (hl : Ints w lv least) (hYr : Y.length = P.rows.length) (hEr : P.rel.length = P.rows.length) (hM : ∀ r ∈ P.rows, r.length = P.c.length) (hll : least.length = P.c.length) (h9 : ∀ r ∈ P.rows, In9 r) (hl9 : In9 least) (hrl : P.rows.length ≤ 64) (hcl : P.c.length ≤ 64) (R : Bool) (hR : R = true ↔ sgs P.rel Y ∧ cvs P.rows Y least) :
    Calls Tryz.prog 47 #[.agg #[rv, ev, bv, cv], yv, lv] w fun e w' => e = .returned (.bool R) ∧ Below w.heap.size w w' := by
  obtain ⟨ra, rc, rfl, rl, rm⟩ := hp.rows.slice
  obtain ⟨ea, ec, rfl, el, em⟩ := hp.rel.slice
  obtain ⟨ba, bc, rfl, bl, bm⟩ := hp.b.slice
  obtain ⟨ca, cc, rfl, cl, cm⟩ := hp.c.slice
  obtain ⟨la, lc, rfl, ll, lm⟩ := hl.slice
  obtain ⟨ya, yc, rfl, hlc, hcm⟩ := hL.slice
  unfold maxLen at rm em bm cm lm
  have b0 := (Below.refl w.heap.size w).alloc (Nat.le_refl _) (Obj.cells #[.slice ra P.rows.length rc, .slice ea P.rel.length ec, .slice ba P.b.length bc, .slice ca P.c.length cc] 32)
  have x0 := box_new w (Obj.cells #[.slice ra P.rows.length rc, .slice ea P.rel.length ec, .slice ba P.b.length bc, .slice ca P.c.length cc] 32)
  have y0 := bxc x0 0 (.slice ra P.rows.length rc) rfl
  have y1 := bxc x0 1 (.slice ea P.rel.length ec) rfl
  have y2 := bxc x0 2 (.slice ba P.b.length bc) rfl
  have y3 := bxc x0 3 (.slice ca P.c.length cc) rfl
  have HPB := hid x0
  have HP := hid (hp.below b0)
  have HB0 := hid b0
  have HL := hid (Ls.below (fun h b => h.below b) hL b0)
  have HLE := hid (hl.below b0)
  have HY := hid hY
  have HRF := hid (fun hh : ¬ sgs P.rel Y => bool_no hR (fun ⟨h1, _⟩ => hh h1))
  have HRR := hid hR
  have HYR := hid hYr
  have HER := hid hEr
  have HM := hid hM
  have HLL := hid hll
  have H9 := hid h9
  have HL9 := hid hl9
  have hy64 : Y.length ≤ 64 := by omega
  clear hp b0 x0 hL hl hY hR hYr hEr hM hll h9 hl9
  go_enter Tryz.func47, Tryz.ntmps47
  go_wp2
  generalize w.alloc (Obj.cells #[.slice ra P.rows.length rc, .slice ea P.rel.length ec, .slice ba P.b.length bc, .slice ca P.c.length cc] 32) = W at *
  clear y0 y1 y2 y3
  go_loopw [7] (fun i wr => ∃ k : Nat, k ≤ Y.length ∧ i = .int .i64 (k : Int) ∧ Hid (wr.heap[w.heap.size]? = some (.cells #[.slice ra P.rows.length rc, .slice ea P.rel.length ec, .slice ba P.b.length bc, .slice ca P.c.length cc] 32 (0, 0))) ∧ Hid (sgsK P.rel Y k) ∧ Below W.heap.size W wr) (fun i _ => Y.length - (intOf i).toNat)
  case atStart => exact ⟨0, Nat.zero_le _, rfl, HPB, fun i _ _ h => by omega, Below.refl _ _⟩
  case round =>
    obtain ⟨k, hk, rfl, HPK, HSG, bw⟩ := hrel
    have BW := hid (chain2 HB0.out bw)
    by_cases hlt : k < Y.length
    · have hkr : k < P.rel.length := by have := HYR.out; have := HER.out; omega
      obtain ⟨eb, eo, ed, ee, _, _, ff⟩ := (HP.out.rel.below bw).at k hkr
      simp only [Value.slice.injEq] at ee
      obtain ⟨rfl, -, rfl⟩ := ee
      obtain ⟨g, c', u0, u1, u2, u3, e, _, q0, q1, q2, q3, hq⟩ := (Ls.below (fun h b => h.below b) HL.out bw).at k hlt
      simp only [Value.slice.injEq] at e
      obtain ⟨rfl, -, rfl⟩ := e
      obtain ⟨s1, s2, s3, s4, s5, s6, s7, s8, hs⟩ := hq.form
      simp only [Value.agg.injEq, Array.mk.injEq, List.cons.injEq, and_true] at hs
      obtain ⟨rfl, rfl, rfl, rfl⟩ := hs
      have HYT := hid (fun hh : yT (plN P.rel[k]) (plN (sgnR Y[k])) = true => sg_succ HSG.out hlt hkr hh)
      have HNT := hid (fun hh : yT (plN P.rel[k]) (plN (sgnR Y[k])) = false => show R = false from HRF.out (sg_no hlt hkr hh))
      have HSN := hid (t_sign wr _ _ 5100 (by omega) hq)
      have pe := bxc HPK.out 1 (.slice (some ⟨eb, eo, none⟩) P.rel.length ec) rfl
      clear hq HSG
      generalize P.rel[k] = rk at *
      generalize sgnR Y[k] = sk at *
      by_cases h1 : rk < 0
      · have h1' : decide (rk < 0) = true := by simpa using h1
        have h2' : decide (0 < rk) = false := by simp; omega
        have h2'' : decide (rk > 0) = false := by simp; omega
        rw [y_lt h1] at HYT HNT
        go_wp2_with fail
        refine HSN.out.mono ?_
        rintro e X1 ⟨rfl, bX1⟩
        have B1 := chain2 bw bX1
        have HP1 := hid (box_below bX1 HPK.out (lt_of_block HPK.out))
        have pe1 := bxc HP1.out 1 (.slice (some ⟨eb, eo, none⟩) P.rel.length ec) rfl
        have ff1 := (bX1.cell (World.block_lt_of_cell? wr _ ff)).trans ff
        have BF := hid (chain2 BW.out bX1)
        clear bX1 pe ff q0 q1 q2 q3
        cases hcr : decide (sk < 0) with
        | true =>
          have HSF := hid (HNT.out (by rw [hcr]; rfl))
          go_wp2
          go_ret
          exact ⟨by rw [HSF.out]; rfl, BF.out⟩
        | false =>
          have HSF := hid (HYT.out (by rw [hcr]; rfl))
          go_wp2
          go_roundw
          case rel => exact ⟨k + 1, by omega, by go_num, HP1, HSF, B1⟩
          case measure => simp [intOf]; omega
      have h1' : decide (rk < 0) = false := by simpa using h1
      by_cases h2 : 0 < rk
      · have h2' : decide (0 < rk) = true := by simpa using h2
        have h2'' : decide (rk > 0) = true := by simpa using h2
        rw [y_gt h2] at HYT HNT
        go_wp2_with fail
        refine HSN.out.mono ?_
        rintro e X1 ⟨rfl, bX1⟩
        have B1 := chain2 bw bX1
        have HP1 := hid (box_below bX1 HPK.out (lt_of_block HPK.out))
        have BF := hid (chain2 BW.out bX1)
        clear bX1 pe ff q0 q1 q2 q3
        cases hcr : decide (0 < sk) with
        | true =>
          have hcr2 : decide (sk > 0) = true := hcr
          have HSF := hid (HNT.out (by rw [hcr]; rfl))
          go_wp2
          go_ret
          exact ⟨by rw [HSF.out]; rfl, BF.out⟩
        | false =>
          have hcr2 : decide (sk > 0) = false := hcr
          have HSF := hid (HYT.out (by rw [hcr]; rfl))
          go_wp2
          go_roundw
          case rel => exact ⟨k + 1, by omega, by go_num, HP1, HSF, B1⟩
          case measure => simp [intOf]; omega
      have h2' : decide (0 < rk) = false := by simpa using h2
      have h2'' : decide (rk > 0) = false := by simpa using h2
      have HSF := hid (HYT.out (y_eq (by omega)))
      go_wp2
      go_roundw
      case rel => exact ⟨k + 1, by omega, by go_num, HPK, HSF, bw⟩
      case measure => simp [intOf]; omega
    · obtain rfl : k = Y.length := by omega
      have HS1 := hid (show sgs P.rel Y from fun i k1 k2 => HSG.out i k1 k2 k1)
      have HRT := hid (fun hh : cvs P.rows Y least => show R = true from HRR.out.2 ⟨HS1.out, hh⟩)
      have HRN := hid (fun hh : ¬ cvs P.rows Y least => bool_no HRR.out (fun ⟨_, h2⟩ => hh h2))
      clear HRF HSG HRR
      go_wp2
      generalize wr = W1 at *
      go_loopw [8] (fun i wr => ∃ j : Nat, j ≤ P.c.length ∧ i = .int .i64 (j : Int) ∧ Hid (wr.heap[w.heap.size]? = some (.cells #[.slice ra P.rows.length rc, .slice ea P.rel.length ec, .slice ba P.b.length bc, .slice ca P.c.length cc] 32 (0, 0))) ∧ Hid (cvsK P.rows Y least j) ∧ Below W.heap.size W wr) (fun i _ => P.c.length - (intOf i).toNat)
      case atStart => exact ⟨0, Nat.zero_le _, rfl, HPK, fun i _ h => by omega, bw⟩
      case round =>
        clear bw BW HPK
        obtain ⟨j, hj, rfl, HPK, HCV, bw⟩ := hrel
        have pc := bxc HPK.out 3 (.slice ca P.c.length cc) rfl
        by_cases hlt : j < P.c.length
        · have hjl : j < least.length := by rw [HLL.out]; exact hlt
          have HYES := hid (fun hh : decide (cmpR (dot (colN P.rows j) Y) (least[j] : Rat) < 0) = false => cv_succ HCV.out hjl (cmp_ge hh))
          have HNO := hid (fun hh : decide (cmpR (dot (colN P.rows j) Y) (least[j] : Rat) < 0) = true => HRN.out (cv_no hjl (cmp_lt hh)))
          have hlj := HL9.out _ (List.getElem_mem hjl)
          have HCI := hid (col_in9 H9.out (fun r hr => by rw [HM.out r hr]; exact hlt))
          have hcn : (colN P.rows j).length = Y.length := by rw [colN_len]; exact HYR.out.symm
          have HCN := hid hcn
          have HGE := hid (show ∀ i (h : i < P.rows.length) (h2 : i < (colN P.rows j).length), ∃ h3 : j < P.rows[i].length, (colN P.rows j)[i] = (P.rows[i])[j] from fun i h h2 => by
            have h3 : j < P.rows[i].length := by rw [HM.out _ (List.getElem_mem h)]; exact hlt
            exact ⟨h3, by simp [colN, h3]⟩)
          have HLJ := hid hlj
          clear HCV hlj hcn
          generalize hlv : least[j] = lj at *
          generalize colN P.rows j = col at *
          go_wp2_with fail
          refine (t_of wr 0 (by omega) (by omega)).mono ?_
          rintro e X1 ⟨v1, rfl, n1, bX1⟩
          obtain ⟨h1, h2, h3, h4, h5, h6, h7, h8, rfl⟩ := n1.form
          have bA := (Below.refl X1.heap.size X1).alloc (Nat.le_refl _) (Obj.cells #[.bool h1, .slice h2 h3 h4, .bool h5, .slice h6 h7 h8] 43)
          have B2 := chain2 bw (chain2 bX1 bA)
          have HP2 := hid (box_below (chain2 bX1 bA) HPK.out (lt_of_block HPK.out))
          have y2 := hid (box_new X1 (Obj.cells #[.bool h1, .slice h2 h3 h4, .bool h5, .slice h6 h7 h8] 43))
          have N2 := hid ((n1.below bA).mono (show 3 ≤ 6000 by omega))
          have hbx : W.heap.size ≤ X1.heap.size := (chain2 bw bX1).size
          have hbw : w.heap.size < X1.heap.size := Nat.lt_of_lt_of_le (lt_of_block HPB.out) hbx
          clear n1 bX1 bA HPK pc bw
          go_wp2_with (refine wpList_store_fresh rfl 43 _ _ rfl _ _ _ rfl (by simp) rfl 4 info_refRat (by rfl) (by rfl) (by simp [Value.oneCell']) ?_)
          generalize X1.alloc (Obj.cells #[.bool h1, .slice h2 h3 h4, .bool h5, .slice h6 h7 h8] 43) = W2 at *
          generalize X1.heap.size = ab at *
          clear X1 wr
          go_loopw [10] (fun i wr => ∃ (k : Nat) (p1 : Bool) (p2 : Option Addr) (p3 p4 : Nat) (p5 : Bool) (p6 : Option Addr) (p7 p8 : Nat), k ≤ Y.length ∧ i = .int .i64 (k : Int) ∧ Hid (wr.heap[ab]? = some (.cells #[.bool p1, .slice p2 p3 p4, .bool p5, .slice p6 p7 p8] 43 (0, 0))) ∧ Hid (wr.heap[w.heap.size]? = some (.cells #[.slice ra P.rows.length rc, .slice ea P.rel.length ec, .slice ba P.b.length bc, .slice ca P.c.length cc] 32 (0, 0))) ∧ Hid (TIs wr (.agg #[.bool p1, .slice p2 p3 p4, .bool p5, .slice p6 p7 p8]) (dot (col.take k) Y) 6000) ∧ Below W.heap.size W wr) (fun i _ => Y.length - (intOf i).toNat)
          case atStart => exact ⟨0, h1, h2, h3, h4, h5, h6, h7, h8, Nat.zero_le _, rfl, y2, HP2, N2, B2⟩
          case round =>
            clear y2 N2 B2 HP2
            obtain ⟨k, p1, p2, p3, p4, p5, p6, p7, p8, hk, rfl, HAA, HPK, HN, bw⟩ := hrel
            by_cases hlt : k < Y.length
            · have hkc : k < col.length := by rw [HCN.out]; exact hlt
              have hkR : k < P.rows.length := by rw [← HYR.out]; exact hlt
              obtain ⟨rb, ro, rcap, ru, re, rcell, hru⟩ := (HP.out.rows.below bw).at k hkR
              simp only [Value.slice.injEq] at re
              obtain ⟨rfl, -, rfl⟩ := re
              obtain ⟨hjR, hcv⟩ := HGE.out k hkR hkc
              obtain ⟨fb, fo, fd, ef, _, hfm, ff⟩ := hru.at j hjR
              rw [← hcv] at ff
              subst ef
              unfold maxLen at hfm
              obtain ⟨g, c', u0, u1, u2, u3, e, _, q0, q1, q2, q3, hq⟩ := (Ls.below (fun h b => h.below b) HL.out bw).at k hlt
              simp only [Value.slice.injEq] at e
              obtain ⟨rfl, -, rfl⟩ := e
              obtain ⟨s1, s2, s3, s4, s5, s6, s7, s8, hs⟩ := hq.form
              simp only [Value.agg.injEq, Array.mk.injEq, List.cons.injEq, and_true] at hs
              obtain ⟨rfl, rfl, rfl, rfl⟩ := hs
              have hk9 := HCI.out _ (List.getElem_mem hkc)
              have HSU := hid (dot_succ col Y k hkc hlt)
              have HFIT := hid (fun (X' : World) (v' : Value) (K : Nat) (hh : TIs X' v' (dot (col.take k) Y + (col[k] : Rat) * Y[k]) K) => show TIs X' v' (dot (col.take (k + 1)) Y) 6000 from tsum_fit (K := K) (by rw [HSU.out]; exact hh) HCI.out HY.out (by rw [HCN.out]; exact Nat.le_refl _) hkc (by omega))
              have H64 := hid hk9
              have HQ := hid (hq.mono (show 5100 ≤ 6000 by omega))
              have pr := bxc HPK.out 0 (.slice (some ⟨rb, ro, none⟩) P.rows.length rc) rfl
              clear hk9 hq hru hcv
              generalize P.rows[k].length = rowl at *
              generalize col[k] = fk at *
              generalize Y[k] = yk at *
              go_wp2_with fail
              obtain ⟨v0, v1, v2, v3⟩ := four_cell HAA.out
              go_region_with (first
                | (have gk := G2; go_at_call 32; refine (t_add _ _ _ (dot (col.take k) Y) ((fk : Rat) * yk) 12006 (by omega) ((HN.out.mono (by omega)).below (by first | exact bX5' | exact below_dn bX5' _ | exact bX5'.drew)) ((by first | exact n5 | exact n5.below (Below.refl _ _).drew | exact n5.below (below_dn (Below.refl _ _) _)) : TIs _ _ _ _)).mono ?_; rintro e Y6 ⟨v6, rfl, n6, b6⟩; have bX6' : Below wr.heap.size wr Y6 := chain2 bX5' ⟨b6.os, b6.tape, b6.output, b6.size, b6.block⟩; obtain ⟨i1, i2, i3, i4, i5, i6, i7, i8, rfl⟩ := n6.form; have aa6 := box_below bX6' HAA.out (lt_of_block HAA.out); obtain ⟨w60, w61, w62, w63⟩ := four_cell aa6; have fr := free_four aa6; clear b6)
                | (have gk := G1; go_at_call 16; refine (t_mul _ _ _ (fk : Rat) yk 6000 (by omega) ((by first | exact n4a | exact n4a.below (Below.refl _ _).drew | exact n4a.below (below_dn (Below.refl _ _) _)) : TIs _ _ _ _) (HQ.out.below (by first | exact bX4' | exact below_dn bX4' _ | exact bX4'.drew))).mono ?_; rintro e Y5 ⟨v5, rfl, n5, b5⟩; have bX5' : Below wr.heap.size wr Y5 := chain2 bX4' ⟨b5.os, b5.tape, b5.output, b5.size, b5.block⟩; have G2 := bX5'; obtain ⟨w50, w51, w52, w53⟩ := four_cell (box_below bX5' HAA.out (lt_of_block HAA.out)); clear b5)
                | (go_at_call 15; refine (t_of _ fk H64.out.1 H64.out.2).mono ?_; rintro e Y4 ⟨v4, rfl, n4, b4⟩; have bX4' : Below wr.heap.size wr Y4 := ⟨b4.os, b4.tape, b4.output, b4.size, b4.block⟩; have n4a := n4.mono (show 3 ≤ 6000 by omega); have G1 := bX4'; obtain ⟨w40, w41, w42, w43⟩ := four_cell (box_below bX4' HAA.out (lt_of_block HAA.out)); have e40 := (bX4'.cell (World.block_lt_of_cell? wr _ q0)).trans q0; have e41 := (bX4'.cell (World.block_lt_of_cell? wr _ q1)).trans q1; have e42 := (bX4'.cell (World.block_lt_of_cell? wr _ q2)).trans q2; have e43 := (bX4'.cell (World.block_lt_of_cell? wr _ q3)).trans q3; clear b4))
              all_goals
                have yS := set4g aa6 (.bool i1) (.slice i2 i3 i4) (.bool i5) (.slice i6 i7 i8)
                have kS := set4_kty (o := 0) (t1 := 43) (t2 := 43) aa6 (Or.inl rfl) (.bool i1) (.slice i2 i3 i4) (.bool i5) (.slice i6 i7 i8)
                have z6 := box_below bX6' HPK.out (lt_of_block HPK.out)
                have zS := (set4_heap (r := ab) (c := w.heap.size) (show w.heap.size ≠ ab by omega) (.bool i1) (.slice i2 i3 i4) (.bool i5) (.slice i6 i7 i8)).trans z6
                have NS := (HFIT.out _ _ _ n6).kty kS (by decide) (by decide)
                have BS := set4_below (o := 0) (bw.trans (bX6'.mono bw.size)) (show W.heap.size ≤ ab by omega) (.bool i1) (.slice i2 i3 i4) (.bool i5) (.slice i6 i7 i8)
                have HYS := hid yS
                have HZS := hid zS
                have HNS := hid NS
                clear yS zS NS kS z6 n6 n5 n4 n4a aa6 fr
                go_wp2
                go_roundw
                case rel => exact ⟨k + 1, i1, i2, i3, i4, i5, i6, i7, i8, by omega, by go_num, HYS, HZS, HNS, BS⟩
                case measure => simp [intOf]; omega
            · obtain rfl : k = Y.length := by omega
              rw [← HCN.out, List.take_length] at HN
              obtain ⟨kb, ko, kd, ek, _, _, fk⟩ := (HLE.out.below bw).at j hjl
              simp only [Value.slice.injEq] at ek
              obtain ⟨rfl, -, rfl⟩ := ek
              rw [hlv] at fk
              obtain ⟨v0, v1, v2, v3⟩ := four_cell HAA.out
              generalize hdv : dot col Y = D at *
              go_wp2_with fail
              have F0 : Below wr.heap.size wr wr.drew := below_drew1 wr
              have HKx := hid (fun (Y : World) (k : Below wr.heap.size wr Y) => show (Y.cell? ⟨ab, 0, none⟩ = some (.bool p1) ∧ Y.cell? ⟨ab, 1, none⟩ = some (.slice p2 p3 p4) ∧ Y.cell? ⟨ab, 2, none⟩ = some (.bool p5) ∧ Y.cell? ⟨ab, 3, none⟩ = some (.slice p6 p7 p8) ∧ Y.cell? ⟨kb, ko + j, none⟩ = some (.int .i64 lj)) from ⟨kc' k v0, kc' k v1, kc' k v2, kc' k v3, kc' k fk⟩)
              go_region_held3 (fun Z => Z.cell? ⟨ab, 0, none⟩ = some (.bool p1) ∧ Z.cell? ⟨ab, 1, none⟩ = some (.slice p2 p3 p4) ∧ Z.cell? ⟨ab, 2, none⟩ = some (.bool p5) ∧ Z.cell? ⟨ab, 3, none⟩ = some (.slice p6 p7 p8) ∧ Z.cell? ⟨kb, ko + j, none⟩ = some (.int .i64 lj)) (first | exact HKx.out _ F2 | exact HKx.out _ F1 | exact HKx.out _ F0) (first
                | (go_at_call 31; have gk := F1; refine (t_cmp _ _ _ D (lj : Rat) 6000 (by omega) (HN.out.below F1) n4a).mono ?_; rintro e Y5 ⟨rfl, bb⟩; have F2 := chain2 F1 bb)
                | (go_at_call 15; have gk := F0; refine (t_of _ lj HLJ.out.1 HLJ.out.2).mono ?_; rintro e Y4 ⟨v4, rfl, n4, bb⟩; have F1 := chain2 F0 bb; have n4a := n4.mono (show 3 ≤ 6000 by omega)))
              have BF := chain2 bw F2
              have BG := hid (chain2 HB0.out BF)
              have HPF := hid (box_below F2 HPK.out (lt_of_block HPK.out))
              clear v0 v1 v2 v3 fk HKx F0
              generalize cmpR D (lj : Rat) = cr at *
              cases hcr : decide (cr < 0) with
              | true =>
                have HSF := hid (HNO.out hcr)
                go_wp2
                go_ret
                exact ⟨by rw [HSF.out]; rfl, by first | exact BG.out | exact BG.out.drew | exact below_dn BG.out _⟩
              | false =>
                have HSF := hid (HYES.out hcr)
                go_wp2
                first
                | exact ⟨⟨j + 1, by omega, by go_num, HPF, HSF, by first | exact BF | exact BF.drew | exact below_dn BF _⟩, by simp [intOf]; omega⟩
                | (go_roundw
                   case rel => exact ⟨j + 1, by omega, by go_num, HPF, HSF, by first | exact BF | exact BF.drew | exact below_dn BF _⟩
                   case measure => simp [intOf]; omega)
        · obtain rfl : j = P.c.length := by omega
          have HF := hid (HRT.out (fun i hi => HCV.out i hi (by rw [← HLL.out]; exact hi)))
          have BG := hid (chain2 HB0.out bw)
          go_wp2
          go_ret
          exact ⟨by rw [HF.out]; rfl, BG.out⟩
end Go.Proofs.YtbdhanlenekdhaaGreatDoor
