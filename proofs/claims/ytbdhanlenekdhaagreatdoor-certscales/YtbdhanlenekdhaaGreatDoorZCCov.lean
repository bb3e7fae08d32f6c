/- cert: covers. -/
import Derived.Test.YtbdhanlenekdhaaGreatDoorPk34
import Derived.Test.YtbdhanlenekdhaaGreatDoorPk36
namespace Go.Proofs.YtbdhanlenekdhaaGreatDoor
open Go.RowKit
set_option linter.unusedVariables false
set_option maxRecDepth 100000
set_option linter.unusedSimpArgs false

set_option maxHeartbeats 12800000 in
theorem covers_any (w : World) (tv p1 p2 p3 p4 rv ev bv cv : Value) (X : List Rat) (P : Prb) (kv : Value) (c : List Int) (hl : LIs w tv p1 p2 p3 p4 X) (hp : IsPrb w rv ev bv cv P) (hk : Ints w kv c) (hr : Rl w) (hXr : X.length = P.rows.length) (hEr : P.rel.length = P.rows.length) (hM : ∀ r ∈ P.rows, r.length = c.length) (h9 : ∀ r ∈ P.rows, In9 r) (hc9 : In9 c) (hcl : c.length ≤ 64) (R : Bool) (hR : R = true ↔ sgs P.rel X ∧ cvs P.rows X c) :
    Calls Tryz.prog 38 #[.agg #[tv, p1, p2, p3, p4], .agg #[rv, ev, bv, cv], kv] w fun e w' => e = .returned (.bool R) ∧ Below w.heap.size w w' := by
  obtain ⟨ta, tc, a1, a2, a3, b1, a4, a5, a6, b2, rfl, rfl, rfl, rfl, rfl, hlc, hcm⟩ := hl.form
  obtain ⟨ra, rc, rfl, rl, rm⟩ := hp.rows.slice
  obtain ⟨ea, ec, rfl, el, em⟩ := hp.rel.slice
  obtain ⟨ba, bc, rfl, bl, bm⟩ := hp.b.slice
  obtain ⟨ca, cc, rfl, cl, cm⟩ := hp.c.slice
  obtain ⟨ka, kc, rfl, kl, km⟩ := hk.slice
  unfold maxLen at rm em bm cm km
  have HCL := hid hl
  obtain ⟨m, base, C, hm0, hm, h64, hX, hq, hL⟩ := hl
  have hlen : (X.map (fun x => x * m)).length = X.length := by simp
  have HL := hid hL
  have HLEN := hid hlen
  have HM := hid hm0
  have HE := hid hp.rel
  have HP := hid hp
  have HK := hid hk
  have HR := hid hr
  have HRF := hid (fun hh : ¬ sgs P.rel X => show R = false by
    cases hb : R with
    | false => rfl
    | true => exact absurd (hR.1 hb).1 hh)
  have HXR := hid hXr
  have HER := hid hEr
  clear hlen hL hq hp hk hr hX hm hXr hEr
  have b0 := boxed2 (Below.refl w.heap.size w) (Obj.cells #[.slice ta X.length tc, .slice a1 a2 a3, .bool b1, .slice a4 a5 a6, .bool b2] 71) (Obj.cells #[.slice ra P.rows.length rc, .slice ea P.rel.length ec, .slice ba P.b.length bc, .slice ca P.c.length cc] 25)
  have x0 := boxed2_first w (Obj.cells #[.slice ta X.length tc, .slice a1 a2 a3, .bool b1, .slice a4 a5 a6, .bool b2] 71) (Obj.cells #[.slice ra P.rows.length rc, .slice ea P.rel.length ec, .slice ba P.b.length bc, .slice ca P.c.length cc] 25)
  have z0 := boxed2_second w (Obj.cells #[.slice ta X.length tc, .slice a1 a2 a3, .bool b1, .slice a4 a5 a6, .bool b2] 71) (Obj.cells #[.slice ra P.rows.length rc, .slice ea P.rel.length ec, .slice ba P.b.length bc, .slice ca P.c.length cc] 25)
  have y0 := bxc x0 0 (.slice ta X.length tc) rfl
  have HX0 := hid x0
  have HZ0 := hid z0
  clear x0 z0
  go_enter Tryz.func38, Tryz.ntmps38
  go_wp2
  generalize (w.alloc (Obj.cells #[.slice ta X.length tc, .slice a1 a2 a3, .bool b1, .slice a4 a5 a6, .bool b2] 71)).alloc (Obj.cells #[.slice ra P.rows.length rc, .slice ea P.rel.length ec, .slice ba P.b.length bc, .slice ca P.c.length cc] 25) = W0 at *
  go_loopw [14] (fun i wr => ∃ k : Nat, k ≤ X.length ∧ i = .int .i64 (k : Int) ∧ Hid (wr.heap[w.heap.size]? = some (.cells #[.slice ta X.length tc, .slice a1 a2 a3, .bool b1, .slice a4 a5 a6, .bool b2] 71 (0, 0))) ∧ Hid (wr.heap[w.heap.size + 1]? = some (.cells #[.slice ra P.rows.length rc, .slice ea P.rel.length ec, .slice ba P.b.length bc, .slice ca P.c.length cc] 25 (0, 0))) ∧ Hid (sgsK P.rel X k) ∧ Below w.heap.size w wr) (fun i _ => X.length - (intOf i).toNat)
  case atStart => exact ⟨0, Nat.zero_le _, rfl, HX0, HZ0, fun i _ _ h => by omega, b0⟩
  case round =>
    obtain ⟨k, hk, rfl, HLB, HPB, HSG, bw⟩ := hrel
    by_cases hlt : k < X.length
    · skip
      obtain ⟨g, c', u0, u1, u2, u3, e, _, q0, q1, q2, q3, hq⟩ := (Ls.below (fun h b => h.below b) HL.out bw).at k (by rw [HLEN.out]; exact hlt)
      simp only [Value.slice.injEq] at e
      obtain ⟨rfl, -, rfl⟩ := e
      obtain ⟨s1, s2, s3, s4, s5, s6, s7, s8, hs⟩ := hq.form
      simp only [Value.agg.injEq, Array.mk.injEq, List.cons.injEq, and_true] at hs
      obtain ⟨rfl, rfl, rfl, rfl⟩ := hs
      have bA := (Below.refl wr.heap.size wr).alloc (Nat.le_refl _) (Obj.cells #[.slice s1 s2 s3, .bool s4, .slice s5 s6 s7, .bool s8] 69)
      have BA := below_alloc' bw (Nat.le_refl _) (Obj.cells #[.slice s1 s2 s3, .bool s4, .slice s5 s6 s7, .bool s8] 69)
      have pA := box_alloc HPB.out (Obj.cells #[.slice s1 s2 s3, .bool s4, .slice s5 s6 s7, .bool s8] 69)
      have lA := box_alloc HLB.out (Obj.cells #[.slice s1 s2 s3, .bool s4, .slice s5 s6 s7, .bool s8] 69)
      have nA := box_new wr (Obj.cells #[.slice s1 s2 s3, .bool s4, .slice s5 s6 s7, .bool s8] 69)
      have hkr : k < P.rel.length := by have := HXR.out; have := HER.out; omega
      obtain ⟨eb, eo, ed, ee, _, _, ff⟩ := (HE.out.below BA).at k hkr
      simp only [Value.slice.injEq] at ee
      obtain ⟨rfl, -, rfl⟩ := ee
      have hsg : sgnR ((X.map (fun x => x * m))[k]'(by rw [HLEN.out]; exact hlt)) = sgnR X[k] := by rw [List.getElem_map]; exact sgn_scale HM.out
      have HQ := hid (hq.below bA)
      have HYT := hid (fun hh : yT (plN P.rel[k]) (plN (sgnR X[k])) = true => sg_succ HSG.out hlt hkr hh)
      have HNT := hid (fun hh : yT (plN P.rel[k]) (plN (sgnR X[k])) = false => show R = false from HRF.out (sg_no hlt hkr hh))
      have hr3 := plN_lt P.rel[k]
      have hs3 := plN_lt (sgnR X[k])
      have HRA := hid (HR.out.below BA)
      have cy := HRA.out.y (plN P.rel[k]) (plN (sgnR X[k])) hr3 hs3
      have HSN := hid (show ∀ Y : World, Below _ _ Y → _ from fun Y (bY : Below (wr.alloc (Obj.cells #[.slice s1 s2 s3, .bool s4, .slice s5 s6 s7, .bool s8] 69)).heap.size (wr.alloc (Obj.cells #[.slice s1 s2 s3, .bool s4, .slice s5 s6 s7, .bool s8] 69)) Y) => q_sign Y _ _ 5100 (by omega) (HQ.out.below bY))
      rw [hsg] at HSN
      clear hq bA hsg
      generalize P.rel[k] = rk at *
      generalize hxk : sgnR X[k] = sk at *
      clear hxk
      go_wp2_with (refine wpList_store_fresh rfl 69 _ _ rfl _ _ _ rfl (by simp) rfl 4 info_Rat (by rfl) (by rfl) (by simp [Value.oneCell']) ?_)
      clear q0 q1 q2 q3
      generalize wr.alloc (Obj.cells #[.slice s1 s2 s3, .bool s4, .slice s5 s6 s7, .bool s8] 69) = W3 at *
      generalize wr.heap.size = nb at *
      obtain ⟨t0, t1, t2, t3⟩ := four_cell nA
      have pe := bxc pA 1 (.slice (some ⟨eb, eo, none⟩) P.rel.length ec) rfl
      have HPA := hid pA
      have HLA := hid lA
      have HNA := hid nA
      clear pA lA nA
      have HPL := hid (fun (n : Int) (Y : World) => place_any n Y)
      go_wp2_with fail
      go_region_with (first
        | (go_at_call 64; refine (HSN.out _ (by first | exact Below.refl _ _ | exact (Below.refl _ _).drew | exact below_dn (Below.refl _ _) _ | exact bS' | exact bS'.drew)).mono ?_; rintro e YS ⟨rfl, bs⟩; have bS' : Below W3.heap.size W3 YS := ⟨bs.os, bs.tape, bs.output, bs.size, bs.block⟩; have pe' := bxc (box_below bS' HPA.out (lt_of_block HPA.out)) 1 (.slice (some ⟨eb, eo, none⟩) P.rel.length ec) rfl; have ff' := (bS'.cell (World.block_lt_of_cell? W3 _ ff)).trans ff; have cy' := (bS'.cell (World.block_lt_of_cell? W3 _ cy)).trans cy; clear bs)
        | (go_at_call 63; refine (HPL.out _ _).mono ?_; rintro e Z ⟨rfl, hZ⟩; have hZ2 := hZ.symm; clear hZ; subst hZ2))
      all_goals
        have BF : Below w.heap.size w YS := BA.trans (bS'.mono BA.size)
        have HPF := hid (box_below bS' HPA.out (lt_of_block HPA.out))
        have HLF := hid (box_below bS' HLA.out (lt_of_block HLA.out))
        clear t0 t1 t2 t3 pe pe' ff ff' cy cy' bS'
        generalize yT (plN rk) (plN sk) = gg at *
        cases gg with
        | true =>
          have HSF := hid (HYT.out rfl)
          simp only [List.getElem_toArray, List.getElem_cons_zero, List.getElem_cons_succ, Act.put, List.setIfInBounds_toArray, List.set_cons_succ, List.set_cons_zero]
          go_wp2
          go_roundw
          case rel => exact ⟨k + 1, by omega, by go_num, HLF, HPF, HSF, by first | exact BF | exact BF.drew | exact below_dn BF _⟩
          case measure => simp [intOf]; omega
        | false =>
          have HSF := hid (HNT.out rfl)
          simp only [List.getElem_toArray, List.getElem_cons_zero, List.getElem_cons_succ, Act.put, List.setIfInBounds_toArray, List.set_cons_succ, List.set_cons_zero]
          go_wp2
          go_ret
          exact ⟨by rw [HSF.out]; rfl, by first | exact BF | exact BF.drew | exact below_dn BF _⟩
    · obtain rfl : k = X.length := by omega
      have HS1 := hid (show sgs P.rel X from fun i k1 k2 => HSG.out i k1 k2 k1)
      have HRT := hid (fun hh : cvs P.rows X c => show R = true from hR.2 ⟨HS1.out, hh⟩)
      have HRN := hid (fun hh : ¬ cvs P.rows X c => show R = false by
        cases hb : R with
        | false => rfl
        | true => exact absurd (hR.1 hb).2 hh)
      clear hR HRF HSG HE HL HLEN
      go_wp2
      generalize wr = W1 at *
      go_loopw [36] (fun i wr => ∃ j : Nat, j ≤ c.length ∧ i = .int .i64 (j : Int) ∧ Hid (wr.heap[w.heap.size]? = some (.cells #[.slice ta X.length tc, .slice a1 a2 a3, .bool b1, .slice a4 a5 a6, .bool b2] 71 (0, 0))) ∧ Hid (wr.heap[w.heap.size + 1]? = some (.cells #[.slice ra P.rows.length rc, .slice ea P.rel.length ec, .slice ba P.b.length bc, .slice ca P.c.length cc] 25 (0, 0))) ∧ Hid (cvsK P.rows X c j) ∧ Below w.heap.size w wr) (fun i _ => c.length - (intOf i).toNat)
      case atStart => exact ⟨0, Nat.zero_le _, rfl, HLB, HPB, fun i _ h => by omega, bw⟩
      case round =>
        obtain ⟨j, hj, rfl, HLB, HPB, HCV, bw⟩ := hrel
        by_cases hlt : j < c.length
        · skip
          obtain ⟨kb, ko, kd, ek, _, _, fk⟩ := (HK.out.below bw).at j hlt
          simp only [Value.slice.injEq] at ek
          obtain ⟨rfl, -, rfl⟩ := ek
          have lA := HLB.out
          have pA := HPB.out
          have y0 := bxc lA 0 (.slice ta X.length tc) rfl
          have y1 := bxc lA 1 (.slice a1 a2 a3) rfl
          have y2 := bxc lA 2 (.bool b1) rfl
          have y3 := bxc lA 3 (.slice a4 a5 a6) rfl
          have y4 := bxc lA 4 (.bool b2) rfl
          have pr := bxc pA 0 (.slice ra P.rows.length rc) rfl
          have hj64 : j < 9223372036854775807 := by omega
          have HCO := hid (fun (Y : World) (bY : Below wr.heap.size wr Y) => column_any Y _ P.rows j ((HP.out.rows.below bw).below bY) (by have := HXR.out; omega) (fun r hr => by rw [hM r hr]; exact hlt) hj64)
          have hcj := hc9 _ (List.getElem_mem hlt)
          have HCMP := hid (fun (Y : World) (bY : Below wr.heap.size wr Y) (u : Value) (hu : Ints Y u (colN P.rows j)) => compare_any Y _ _ _ _ _ X u (colN P.rows j) c[j] ((HCL.out.below bw).below bY) hu (col_in9 h9 (fun r hr => by rw [hM r hr]; exact hlt)) (by rw [colN_len, HXR.out]; exact Nat.le_refl _) hcj)
          have HYES := hid (fun hh : decide (cmpR (dot (colN P.rows j) X) (c[j] : Rat) < 0) = false => cv_succ HCV.out hlt (cmp_ge hh))
          have HNO := hid (fun hh : decide (cmpR (dot (colN P.rows j) X) (c[j] : Rat) < 0) = true => HRN.out (cv_no hlt (cmp_lt hh)))
          clear HCV lA pA
          generalize cmpR (dot (colN P.rows j) X) (c[j] : Rat) = cr at *
          generalize c[j] = cj at *
          go_wp2_with fail
          go_region_with (first
            | (have gk := hcol; go_at_call 40; refine (HCMP.out _ (by first | exact bO' | exact bO'.drew | exact below_dn bO' _) _ (by first | exact hcol | exact hcol.below (Below.refl _ _).drew | exact hcol.below (below_dn (Below.refl _ _) _))).mono ?_; rintro e Y9 ⟨rfl, b9⟩; have bC' : Below wr.heap.size wr Y9 := (by first | exact chain2 bO' b9 | exact chain2 bO' ⟨b9.os, b9.tape, b9.output, b9.size, b9.block⟩))
            | (go_at_call 65; refine (HCO.out _ (by first | exact Below.refl _ _ | exact (Below.refl _ _).drew | exact below_dn (Below.refl _ _) _)).mono ?_; rintro e YO ⟨⟨uv, rfl, hcol⟩, bo⟩; have bO' : Below wr.heap.size wr YO := ⟨bo.os, bo.tape, bo.output, bo.size, bo.block⟩; have yo := box_below bO' HLB.out (lt_of_block HLB.out); have o0 := bxc yo 0 (.slice ta X.length tc) rfl; have o1 := bxc yo 1 (.slice a1 a2 a3) rfl; have o2 := bxc yo 2 (.bool b1) rfl; have o3 := bxc yo 3 (.slice a4 a5 a6) rfl; have o4 := bxc yo 4 (.bool b2) rfl; clear bo yo))
          all_goals
            have BF : Below w.heap.size w Y9 := bw.trans (bC'.mono bw.size)
            have HPF := hid (box_below bC' HPB.out (lt_of_block HPB.out))
            have HLF := hid (box_below bC' HLB.out (lt_of_block HLB.out))
            clear y0 y1 y2 y3 y4 pr o0 o1 o2 o3 o4 bC'
            cases hcr : decide (cr < 0) with
            | true =>
              have HSF := hid (HNO.out hcr)
              (try simp only [List.getElem_toArray, List.getElem_cons_zero, List.getElem_cons_succ, Act.put, List.setIfInBounds_toArray, List.set_cons_succ, List.set_cons_zero])
              go_wp2
              go_ret
              exact ⟨by rw [HSF.out]; rfl, by first | exact BF | exact BF.drew | exact below_dn BF _⟩
            | false =>
              have HSF := hid (HYES.out hcr)
              (try simp only [List.getElem_toArray, List.getElem_cons_zero, List.getElem_cons_succ, Act.put, List.setIfInBounds_toArray, List.set_cons_succ, List.set_cons_zero])
              go_wp2
              go_roundw
              case rel => exact ⟨j + 1, by omega, by go_num, HLF, HPF, HSF, by first | exact BF | exact BF.drew | exact below_dn BF _⟩
              case measure => simp [intOf]; omega
        · obtain rfl : j = c.length := by omega
          have HF := hid (HRT.out (fun i hi => HCV.out i hi hi))
          go_wp2
          go_ret
          exact ⟨by rw [HF.out]; rfl, bw⟩
end Go.Proofs.YtbdhanlenekdhaaGreatDoor
