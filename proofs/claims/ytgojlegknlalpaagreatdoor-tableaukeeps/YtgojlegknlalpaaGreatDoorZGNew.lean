/- tableau: the document's New. -/
import Derived.Test.YtgojlegknlalpaaGreatDoorPk35
import Derived.Test.YtgojlegknlalpaaGreatDoorZUSrc
import Derived.Test.YtgojlegknlalpaaGreatDoorPk36
import Derived.Deep.QuietTactic
import Derived.BigQuiet
namespace Go.Proofs.YtgojlegknlalpaaGreatDoor
open Go.RowKit
set_option linter.unusedVariables false
set_option maxRecDepth 100000
set_option linter.unusedSimpArgs false

set_option maxHeartbeats 12800000 in
theorem gNew_any (w : World) (v bv : Value) (M : List (List Int)) (B : List Int) (h : IntRows w v M) (hb : Ints w bv B) :
    Calls Tryz.prog 11 #[v, bv] w fun e w' => ((unw M B ≠ 0 ∧ e = .returned (.tuple #[.pointer none, .int .i64 (unw M B)])) ∨ (unw M B = 0 ∧ ∃ gb, e = .returned (.tuple #[.pointer (some ⟨gb, 0, none⟩), .int .i64 0]) ∧ w.heap.size ≤ gb ∧ GTb w' gb (ratM M) B 3)) ∧ Below w.heap.size w w' := by
  have HI0 := hid h
  have HBI0 := hid hb
  obtain ⟨a, c, rfl, hl, hm⟩ := h.slice
  obtain ⟨ba, bc, rfl, bl, bm⟩ := hb.slice
  unfold maxLen at hm bm
  clear h hb
  obtain ⟨R, HR⟩ : ∃ R, Hid (unw M B = R) := ⟨_, hid rfl⟩
  have HRu := hid (show R = if ushp M B = false then 120 else if 64 < M.length ∨ 192 < wid M ∨ M.any bey = true then 82 else if ucl B (wid M) = false then 1 else 0 by rw [← HR.out]; rfl)
  rw [HR.out]
  clear HR
  have b0 := Below.refl w.heap.size w
  by_cases hbl : B.length = M.length
  case neg =>
    have HE := hid (show R = 120 by rw [HRu.out, if_pos (by unfold ushp; simp [hbl])])
    have d1 : ((B.length : Int) == (M.length : Int)) = false := beq_eq_false_iff_ne.2 (by omega)
    have d2 : ¬ ((B.length : Int) = (M.length : Int)) := by omega
    clear HRu hbl
    go_enter Tryz.func11, Tryz.ntmps11
    go_wp2
    go_ret2
    exact ⟨Or.inl ⟨by rw [HE.out]; omega, by rw [HE.out]; rfl⟩, Below.refl _ _⟩
  have HBL := hid hbl
  rw [hbl] at bl HBI0
  simp only [hbl]
  clear hbl
  obtain ⟨i0, hi0, hz0, hz1, hz2⟩ := info_parts info_refRatZ
  obtain ⟨j0, hj0, jz0, jz1, jz2⟩ := info_parts info_refRats
  obtain ⟨m0, hm0, mz0, mz1, mz2⟩ := info_parts info_intU
  go_enter Tryz.func11, Tryz.ntmps11
  go_wp2
  go_loopw [6] (fun i wr => ∃ (k : Nat), k ≤ M.length ∧ i = .int .i64 (k : Int) ∧ Hid (∀ j (hj : j < M.length), j < k → M[j].length = wid M) ∧ Below w.heap.size w wr) (fun i _ => M.length - (intOf i).toNat)
  case atStart => exact ⟨0, Nat.zero_le _, rfl, fun j _ h => absurd h (Nat.not_lt_zero _), b0⟩
  case round =>
  obtain ⟨k, hk, rfl, HSH, bw⟩ := hrel
  have HI := hid (HI0.out.below bw)
  by_cases hlt : k < M.length
  · obtain ⟨rb, ro, rcc, u, e, hc, hu⟩ := HI.out.at k hlt
    obtain ⟨rb', ro', rcc', u', e', hc', hu'⟩ := HI.out.at 0 (by omega)
    simp only [Value.slice.injEq] at e e'
    obtain ⟨rfl, -, rfl⟩ := e
    simp only [Option.some.injEq, Addr.mk.injEq, and_true, true_and] at e'
    obtain ⟨⟨rfl, rfl⟩, -⟩ := e'
    obtain ⟨ua, uc, hue, _, hum⟩ := hu.slice
    obtain ⟨ua', uc', hue', _, hum'⟩ := hu'.slice
    subst hue hue'
    unfold maxLen at hum hum'
    have HW0 := hid (wid_pos (M := M) (by omega))
    rw [Nat.add_zero] at hc'
    clear hu hu'
    by_cases hq : M[k].length = (M[0]'(by omega)).length
    · have HS2 : Hid (∀ j (hj : j < M.length), j < k + 1 → M[j].length = wid M) := hid (fun j hj hjk => by
        by_cases hjj : j < k
        · exact HSH.out j hj hjj
        · obtain rfl : j = k := by omega
          rw [hq, HW0.out])
      rw [hq] at hc
      clear hq
      generalize (M[0]'_).length = nn at *
      go_wp2
      go_quiet (fail)
      go_wp2
      go_roundw
      case rel => exact ⟨k + 1, by omega, by go_num, HS2, below_dn bw _⟩
      case measure => simp [intOf]; omega
    · have HE := hid (show R = 120 by
        rw [HRu.out, if_pos]
        unfold ushp
        cases hb : M.all (fun r => decide (r.length = wid M)) with
        | false => simp
        | true =>
          have := List.all_eq_true.1 hb _ (List.getElem_mem hlt)
          simp at this
          rw [HW0.out] at this
          exact absurd this hq)
      have d1 : ((M[k].length : Int) == ((M[0]'(by omega)).length : Int)) = false := beq_eq_false_iff_ne.2 (by omega)
      have d2 : ¬ ((M[k].length : Int) = ((M[0]'(by omega)).length : Int)) := by omega
      clear hq
      generalize (M[0]'_).length = nn at *
      generalize M[k].length = nk at *
      go_wp2
      go_quiet (fail)
      go_wp2
      go_ret2
      exact ⟨Or.inl ⟨by rw [HE.out]; omega, by rw [HE.out]; rfl⟩, below_dn bw _⟩
  obtain rfl : k = M.length := by omega
  have HSA := hid (show ushp M B = true by
    unfold ushp
    rw [Bool.and_eq_true]
    refine ⟨List.all_eq_true.2 fun r hr => ?_, by simpa using HBL.out⟩
    obtain ⟨j, hj, rfl⟩ := List.getElem_of_mem hr
    simpa using HSH.out j hj hj)
  have HR2 := hid (show R = if 64 < M.length ∨ 192 < wid M ∨ M.any bey = true then 82 else if ucl B (wid M) = false then 1 else 0 by rw [HRu.out, if_neg (by rw [HSA.out]; decide)])
  clear HRu hlt
  by_cases h1 : 64 < M.length
  · have h1' : decide ((64 : Int) < (M.length : Int)) = true := by simp; omega
    have HE := hid (show R = 82 by rw [HR2.out, if_pos (Or.inl h1)])
    go_wp2
    go_ret2
    exact ⟨Or.inl ⟨by rw [HE.out]; omega, by rw [HE.out]; rfl⟩, bw⟩
  have h1' : decide ((64 : Int) < (M.length : Int)) = false := by simp; omega
  by_cases h2 : 192 < wid M
  · have hp : 0 < M.length := by
      rcases Nat.eq_zero_or_pos M.length with h0 | h0
      · rw [wid_zero h0] at h2; omega
      · exact h0
    have hpd : decide ((0 : Int) < (M.length : Int)) = true := by simp; omega
    obtain ⟨rb', ro', rcc', u', e', hc', hu'⟩ := HI.out.at 0 hp
    simp only [Value.slice.injEq] at e'
    obtain ⟨rfl, -, rfl⟩ := e'
    obtain ⟨ua', uc', hue', _, hum'⟩ := hu'.slice
    subst hue'
    rw [Nat.add_zero] at hc'
    have h2' : decide ((192 : Int) < ((M[0]'hp).length : Int)) = true := by rw [wid_pos hp] at h2; simp; omega
    have HE := hid (show R = 82 by rw [HR2.out, if_pos (Or.inr (Or.inl h2))])
    clear hu' h2
    generalize (M[0]'_).length = nn at *
    go_wp2
    go_ret2
    exact ⟨Or.inl ⟨by rw [HE.out]; omega, by rw [HE.out]; rfl⟩, bw⟩
  have HW2 := hid h2
  by_cases h0 : M.length = 0
  case neg =>
    have HY0 := hid (box_new wr (Obj.cells #[.slice none 0 0, .slice none 0 0] 67))
    have bA0 := (Below.refl wr.heap.size wr).alloc (Nat.le_refl _) (Obj.cells #[.slice none 0 0, .slice none 0 0] 67)
    have BW := chain2 bw bA0
    have hbx : w.heap.size ≤ wr.heap.size := bw.size
    have HL0 := hid (show GRs (wr.alloc (Obj.cells #[.slice none 0 0, .slice none 0 0] 67)) w.heap.size (.slice none 0 0) [] ((ratM M).take 0) 3 from grs_none _ _)
    have hp : 0 < M.length := by omega
    have hpd : decide ((0 : Int) < (M.length : Int)) = true := by simp; omega
    obtain ⟨rb', ro', rcc', u', e', hc', hu'⟩ := HI.out.at 0 hp
    simp only [Value.slice.injEq] at e'
    obtain ⟨rfl, -, rfl⟩ := e'
    obtain ⟨ua', uc', hue', _, hum'⟩ := hu'.slice
    subst hue'
    rw [Nat.add_zero] at hc'
    have h2' : decide ((192 : Int) < ((M[0]'hp).length : Int)) = false := by rw [wid_pos hp] at h2; simp; omega
    clear hu'
    generalize (M[0]'_).length = nn at *
    go_wp2
    clear bA0 HI bw b0 hpd hc' h2' hum'
    generalize wr.alloc (Obj.cells #[.slice none 0 0, .slice none 0 0] 67) = W at *
    generalize wr.heap.size = gb at *
    go_loopw [8] (fun i wr => ∃ (k : Nat) (ra : Option Addr) (rc : Nat) (vs : List Value), k ≤ M.length ∧ i = .int .i64 (k : Int) ∧ Hid (wr.heap[gb]? = some (.cells #[.slice ra k rc, .slice none 0 0] 67 (0, 0))) ∧ Hid (GRs wr w.heap.size (.slice ra k rc) vs ((ratM M).take k) 3) ∧ Hid (∀ j (hj : j < M.length), j < k → bey M[j] = false) ∧ Below w.heap.size w wr) (fun i _ => M.length - (intOf i).toNat)
    case atStart => exact ⟨0, none, 0, [], Nat.zero_le _, rfl, HY0, HL0, fun j _ h => absurd h (Nat.not_lt_zero _), BW⟩
    case round =>
    clear HY0 HL0 BW
    obtain ⟨k, ra, rc, vs, hk, rfl, HY, HG, HBE, bw⟩ := hrel
    have HI := hid (HI0.out.below bw)
    have hgk := HG.out.slice
    have hrcc : k ≤ rc ∧ rc ≤ 9223372036854775807 := by
      obtain ⟨_, _, e, k1, k2⟩ := hgk
      simp only [Value.slice.injEq, List.length_take, ratM_len] at e k1
      omega
    clear hgk
    by_cases hlt : k < M.length
    · obtain ⟨rb, ro, rcc, u, e, hc, hu⟩ := HI.out.at k hlt
      simp only [Value.slice.injEq, Option.some.injEq, Addr.mk.injEq, and_true, true_and] at e
      obtain ⟨⟨rfl, rfl⟩, rfl⟩ := e
      obtain ⟨ua, uc, hue, _, hum⟩ := hu.slice
      subst hue
      unfold maxLen at hum
      have HU := hid hu
      have HSU := hid (ratM_succ M k hlt)
      have hwid : M[k].length ≤ 192 := by rw [HSH.out k hlt hlt]; have := HW2.out; omega
      have HEB : Hid (∀ c, (hc : c < M[k].length) → byd (M[k])[c] = true → R = 82) := hid (fun c hc hb => by
        rw [HR2.out, if_pos (Or.inr (Or.inr (List.any_eq_true.2 ⟨M[k], List.getElem_mem hlt, List.any_eq_true.2 ⟨_, List.getElem_mem hc, hb⟩⟩)))])
      have HBN : Hid (bey M[k] = false → ∀ j (hj : j < M.length), j < k + 1 → bey M[j] = false) := hid (fun hb j hj hjk => by
        by_cases hjj : j < k
        · exact HBE.out j hj hjj
        · obtain rfl : j = k := by omega
          exact hb)
      have HXK := hid (show ((ratM M).take k).length = k by rw [List.length_take, ratM_len]; omega)
      clear hu
      generalize M[k] = row at *
      have bL := (Below.refl wr.heap.size wr).alloc (Nat.le_refl _) (Obj.cells #[] 74)
      have N0 := hid (ls_madeG (I := TIs) (e := 74) (K := 3) wr wr.heap.size (Nat.le_refl _))
      go_wp2
      generalize wr.alloc (Obj.cells #[] 74) = WL at *
      generalize wr = WK at *
      go_loopw [9, 10] (fun l j wr => ∃ (c : Nat) (C : List (List Value)), c ≤ row.length ∧ j = .int .i64 (c : Int) ∧ Hid (TLs wr WK.heap.size l C ((row.map (fun (t : Int) => (t : Rat))).take c) 3) ∧ Hid (∀ x ∈ row.take c, byd x = false) ∧ Below WK.heap.size WK wr) (fun _ j _ => row.length - (intOf j).toNat)
      case atStart => exact ⟨0, [], Nat.zero_le _, rfl, N0, (by intro x hx; simp at hx), bL⟩
      case round =>
        clear N0 bL
        obtain ⟨c0, C, hcl, rfl, HTL, HBY, bk⟩ := hrel
        have hXL : ((row.map (fun (t : Int) => (t : Rat))).take c0).length = c0 := by rw [List.length_take, List.length_map]; omega
        obtain ⟨la_, lc, hle, hll, hlm⟩ := HTL.out.slice
        rw [hXL] at hle hll
        subst hle
        have HXL := hid hXL
        clear hXL
        have kc := kcU bk hc
        have BW2 : Below w.heap.size w wr := bw.trans (bk.mono bw.size)
        by_cases hltc : c0 < row.length
        · obtain ⟨eb, eo, ec, e, _, _, hce⟩ := (HU.out.below bk).at c0 hltc
          simp only [Value.slice.injEq] at e
          obtain ⟨rfl, -, rfl⟩ := e
          have HEC := hid (HEB.out c0 hltc)
          have HRS := hid (ratR_succ row c0 hltc)
          have HBS : Hid (byd row[c0] = false → ∀ x ∈ row.take (c0 + 1), byd x = false) := hid (fun hb x hx => by
            rw [List.take_succ_eq_append_getElem hltc] at hx
            rcases List.mem_append.1 hx with hx | hx
            · exact HBY.out x hx
            · simp only [List.mem_singleton] at hx
              subst hx; exact hb)
          generalize row[c0] = x at *
          by_cases hx1 : 1000000000 < x
          · have d1 : decide ((1000000000 : Int) < x) = true := by simpa using hx1
            have HE := hid (HEC.out (by unfold byd; rw [d1]; rfl))
            go_wp2
            go_ret2
            exact ⟨Or.inl ⟨by rw [HE.out]; omega, by rw [HE.out]; rfl⟩, BW2⟩
          have d1 : decide ((1000000000 : Int) < x) = false := by simpa using hx1
          by_cases hx2 : x < -1000000000
          · have d2 : decide (x < (-1000000000 : Int)) = true := by simpa using hx2
            have HE := hid (HEC.out (by unfold byd; rw [d1, d2]; rfl))
            go_wp2
            go_ret2
            exact ⟨Or.inl ⟨by rw [HE.out]; omega, by rw [HE.out]; rfl⟩, BW2⟩
          have d2 : decide (x < (-1000000000 : Int)) = false := by simpa using hx2
          have HNB := hid (HBS.out (by unfold byd; rw [d1, d2]; rfl))
          clear HEC HBS
          go_wp2_with fail
          refine (t_of _ x (by omega) (by omega)).mono ?_
          rintro e Y1 ⟨v1, rfl, hq, bY1⟩
          obtain ⟨s1, s2, s3, s4, s5, s6, s7, s8, rfl⟩ := hq.form
          have bA := (Below.refl Y1.heap.size Y1).alloc (Nat.le_refl _) (Obj.cells #[.bool s1, .slice s2 s3 s4, .bool s5, .slice s6 s7 s8] 74)
          have bY := chain2 bY1 bA
          have la := Ls.below (fun h b => h.below b) HTL.out bY
          have own := la.own
          rw [HXL.out] at own
          have hfn := four_new Y1 74 (.bool s1) (.slice s2 s3 s4) (.bool s5) (.slice s6 s7 s8)
          have HLA := hid la
          have HQA := hid (hq.below bA)
          have HBY2 := hid bY
          have hbs : WK.heap.size ≤ (Y1.alloc (Obj.cells #[.bool s1, .slice s2 s3 s4, .bool s5, .slice s6 s7 s8] 74)).heap.size := Nat.le_trans bk.size bY.size
          clear la bA bY hq bY1
          go_wp2_with (at_builtin; refine wpList_append_own_at _ rfl _ _ 68 rfl WK.heap.size 74 i0 (.agg #[.bool false, .slice none 0 0, .bool false, .slice none 0 0]) 4 64 Tryz.underlying68 hi0 hz0 hz1 hz2 rfl (by decide) (.slice la_ c0 lc) c0 C.flatten rfl own ⟨Y1.heap.size, 0, none⟩ 1 1 [.bool s1, .slice s2 s3 s4, .bool s5, .slice s6 s7 s8] rfl rfl hfn (by intro u hu; simp at hu; rcases hu with rfl | rfl | rfl | rfl <;> rfl) (by unfold maxLen; omega) (by omega) hbs ?_)
          intro v' Y5 o5 hg5 _ hat5
          have kg : Kty 74 74 _ Y5 := Kty.of_grown hg5 (fun g hg => own_ty own g hg)
          have hpush := Ls.push HLA.out (w' := Y5) (v' := v') (x0 := .bool s1) (x1 := .slice s2 s3 s4) (x2 := .bool s5) (x3 := .slice s6 s7 s8) (q := ((x : Int) : Rat)) (by rw [HXL.out]; exact o5) (fun h => TIs.kty h kg (by decide) (by decide)) HQA.out
          rw [← HRS.out] at hpush
          have B5 := (bk.trans (HBY2.out.mono bk.size)).grown hg5 hbs (fun g hg => (own.lt g hg).1)
          have HPU := hid hpush
          clear hpush kg own hfn o5 hg5 hat5 hbs
          go_wp2
          go_roundw
          case rel => exact ⟨c0 + 1, _, by omega, by go_num, HPU, HNB, B5⟩
          case measure => simp [intOf]; omega
        · obtain rfl : c0 = row.length := by omega
          have HTF := hid (show TLs wr WK.heap.size (.slice la_ row.length lc) C (row.map (fun (t : Int) => (t : Rat))) 3 by
            have := HTL.out
            rw [show row.length = (row.map (fun (t : Int) => (t : Rat))).length by rw [List.length_map], List.take_length] at this
            rw [List.length_map] at this
            exact this)
          have HBF := hid (HBN.out (bey_no (by have := HBY.out; rw [List.take_length] at this; exact this)))
          have y1 := box_below bk HY.out (lt_of_block HY.out)
          have gr := HG.out.below bk
          have k0 := bxc y1 0 (.slice ra k rc) rfl
          have bA := (Below.refl wr.heap.size wr).alloc (Nat.le_refl _) (Obj.cells #[.slice la_ row.length lc] 68)
          have ya := box_below bA y1 (lt_of_block y1)
          have ga := gr.below bA
          have own := ga.own
          rw [HXK.out] at own
          have k1 := bxc ya 0 (.slice ra k rc) rfl
          have hfn : ∀ j u, [Value.slice la_ row.length lc][j]? = some u → (wr.alloc (Obj.cells #[.slice la_ row.length lc] 68)).cell? ((⟨wr.heap.size, 0, none⟩ : Addr).add j) = some u := by
            intro j u hu
            rw [add_off, Nat.zero_add]
            exact bxc (box_new wr (.cells #[.slice la_ row.length lc] 68)) j u (by simpa using hu)
          have hbs : w.heap.size ≤ (wr.alloc (Obj.cells #[.slice la_ row.length lc] 68)).heap.size := Nat.le_trans BW2.size bA.size
          have BWA := BW2.alloc BW2.size (Obj.cells #[.slice la_ row.length lc] 68)
          have HGA := hid ga
          have HTA := hid (Ls.below (fun h b => h.below b) HTF.out bA)
          have HYA := hid ya
          have hk64 : k ≤ 64 := by omega
          clear gr ga y1 ya bA HTL HTF HBY HBN HEB HU
          go_wp2_with (at_builtin; refine wpList_append_own_at _ rfl _ _ 65 rfl w.heap.size 68 j0 (.slice none 0 0) 1 24 Tryz.underlying65 hj0 jz0 jz1 jz2 rfl (by decide) (.slice ra k rc) k vs rfl own ⟨wr.heap.size, 0, none⟩ 1 1 [.slice la_ row.length lc] rfl rfl hfn (by intro u hu; simp at hu; subst hu; rfl) (by unfold maxLen; omega) (by omega) hbs ?_)
          intro v' Y5 o5 hg5 _ hat5
          obtain ⟨ra', rc', rfl⟩ := own_form4 o5
          have y5 := (hg5.block gb (lt_of_block HYA.out) (fun e => own_ne_ty own HYA.out (by decide) e.symm)).trans HYA.out
          have kg : Kty 68 67 (wr.alloc (Obj.cells #[.slice la_ row.length lc] 68)) Y5 := Kty.of_grown hg5 (fun g hg => own_ty own g hg)
          have hpush := GRs.push HGA.out (w' := Y5) (v' := .slice ra' (k + 1) rc') (u := .slice la_ row.length lc) (x := row.map (fun (t : Int) => (t : Rat))) (by rw [HXK.out]; exact o5) (fun h => h.kty kg (by decide) (by decide) (by decide) (by decide)) HTA.out
          rw [← HSU.out] at hpush
          have o0 := bxc y5 0 (.slice ra k rc) rfl
          have fr := blk_free y5 0
          have yS := blk_set y5 0 (.slice ra' (k + 1) rc')
          have LS := GRs.set (i := 0) hpush y5 (.slice ra' (k + 1) rc')
          have B5 := BWA.grown hg5 hbs (fun g hg => (own.lt g hg).1)
          have BS := B5.setCell (p := ⟨gb, 0, none⟩) hbx (.slice ra' (k + 1) rc')
          have HYS := hid yS
          have HLS := hid LS
          clear yS LS kg hpush y5 o5 hg5 hat5 B5 own hfn k0 k1
          go_wp2
          go_roundw
          case rel => exact ⟨k + 1, ra', rc', _, by omega, by go_num, HYS, HLS, HBF, BS⟩
          case measure => simp [intOf]; omega
    obtain rfl : k = M.length := by omega
    have HGF := hid (show GRs wr w.heap.size (.slice ra M.length rc) vs (ratM M) 3 by
      have := HG.out
      rw [← ratM_len M, List.take_length] at this
      rw [ratM_len] at this
      exact this)
    have HNB := hid (anybey_no (M := M) (fun r hr => by obtain ⟨j, hj, rfl⟩ := List.getElem_of_mem hr; exact HBE.out j hj hj))
    have HR3 := hid (show R = if ucl B (wid M) = false then 1 else 0 by rw [HR2.out, if_neg (by rw [HNB.out]; have := HW2.out; simp; omega)])
    clear HR2 HG HBE HI hlt
    go_wp2
    have b4 := Below.refl wr.heap.size wr
    have HB0 := hid (HBI0.out.below bw)
    have HI := hid (HI0.out.below bw)
    generalize wr = W4 at *
    go_loopw [12] (fun i wr => ∃ (k : Nat), k ≤ M.length ∧ i = .int .i64 (k : Int) ∧ Hid (ucl (B.take k) (wid M) = true) ∧ Below W4.heap.size W4 wr) (fun i _ => M.length - (intOf i).toNat)
    case atStart => exact ⟨0, Nat.zero_le _, rfl, (by unfold ucl; rfl), b4⟩
    case round =>
    clear b4
    obtain ⟨k, hk, rfl, HUC, bk⟩ := hrel
    have BW2 : Below w.heap.size w wr := bw.trans (bk.mono bw.size)
    by_cases hlt : k < M.length
    · have hp : 0 < M.length := by omega
      obtain ⟨rb', ro', rcc', u', e', hc', hu'⟩ := HI.out.at 0 hp
      simp only [Value.slice.injEq, Option.some.injEq, Addr.mk.injEq, and_true, true_and] at e'
      obtain ⟨⟨rfl, rfl⟩, rfl⟩ := e'
      obtain ⟨ua', uc', hue', _, hum'⟩ := hu'.slice
      subst hue'
      unfold maxLen at hum'
      rw [Nat.add_zero] at hc'
      have kc := kcU bk hc'
      have hltB : k < B.length := by rw [HBL.out]; exact hlt
      obtain ⟨eb, eo, ec, e, _, _, hce⟩ := (HB0.out.below bk).at k hltB
      simp only [Value.slice.injEq] at e
      obtain ⟨rfl, -, rfl⟩ := e
      have HN := hid (fun (h : B[k] < 0 ∨ (wid M : Int) ≤ B[k]) => ucl_no hltB h)
      have HS := hid (fun (h1 : 0 ≤ B[k]) (h2 : B[k] < (wid M : Int)) => ucl_succ hltB HUC.out h1 h2)
      rw [wid_pos hp] at HN HS
      rw [← wid_pos hp] at HS
      have HWP := hid (wid_pos hp)
      have HR4 := hid (show ucl B (wid M) = false → R = 1 from fun h => by rw [HR3.out, if_pos h])
      rw [HWP.out] at HR4
      have HS2 := hid (show 0 ≤ B[k] → B[k] < ((M[0]'hp).length : Int) → ucl (B.take (k + 1)) (wid M) = true from fun h1 h2 => HS.out h1 (by rw [HWP.out]; exact h2))
      have HN2 := hid (show (B[k] < 0 ∨ ((M[0]'hp).length : Int) ≤ B[k]) → R = 1 from fun h => HR4.out (by rw [← HWP.out]; exact ucl_no hltB (by rw [HWP.out]; exact h)))
      clear HN HS HR4 hu' hc' HWP
      generalize (M[0]'_).length = nn at *
      generalize B[k] = z at *
      by_cases hz1 : z < 0
      · have d1 : decide (z < 0) = true := by simpa using hz1
        have HE := hid (HN2.out (Or.inl hz1))
        go_wp2
        go_quiet (fail)
        go_wp2
        go_ret2
        exact ⟨Or.inl ⟨by rw [HE.out]; omega, by rw [HE.out]; rfl⟩, below_dn BW2 _⟩
      have d1 : decide (z < 0) = false := by simpa using hz1
      by_cases hz2 : (nn : Int) ≤ z
      · have d2 : decide ((nn : Int) ≤ z) = true := by simpa using hz2
        have HE := hid (HN2.out (Or.inr hz2))
        go_wp2
        go_quiet (fail)
        go_wp2
        go_ret2
        exact ⟨Or.inl ⟨by rw [HE.out]; omega, by rw [HE.out]; rfl⟩, below_dn BW2 _⟩
      have d2 : decide ((nn : Int) ≤ z) = false := by simpa using hz2
      have HUN := hid (HS2.out (by omega) (by omega))
      go_wp2
      go_quiet (fail)
      go_wp2
      go_roundw
      case rel => exact ⟨k + 1, by omega, by go_num, HUN, below_dn bk _⟩
      case measure => simp [intOf]; omega
    obtain rfl : k = M.length := by omega
    have HE := hid (show R = 0 by
      have := HUC.out
      rw [← HBL.out, List.take_length] at this
      rw [HR3.out, if_neg (by rw [this]; decide)])
    have y1 := box_below bk HY.out (lt_of_block HY.out)
    have gr := HGF.out.below bk
    have k1 := bxc y1 1 (.slice none 0 0) rfl
    have own : wr.ownsRow wr.heap.size 3 1 (.slice none 0 0) 0 [] := ⟨rfl, .inl ⟨rfl, rfl⟩⟩
    have src : SrcOf wr 1 M.length (intV B) (.slice ba M.length bc) := by
      have hv := HB0.out.below bk
      have := ints_src hv (a := ba) (c := bc) (by rw [HBL.out])
      rw [HBL.out] at this
      exact this
    have HYA := hid y1
    have HGA := hid gr
    clear y1 gr HUC
    go_wp2_with (at_builtin; refine wpList_append_src rfl _ _ 23 rfl wr.heap.size 3 m0 (.int .i64 0) 1 8 Tryz.underlying23 hm0 mz0 mz1 mz2 rfl (by decide) _ 0 [] rfl own M.length (intV B) _ rfl src (by intro u hu; simp only [intV, List.mem_map] at hu; obtain ⟨x, _, rfl⟩ := hu; rfl) (by unfold maxLen; omega) (by omega) (Nat.le_refl _) ?_)
    intro v6 w7 oq7 hg7 hat7
    try simp only [Nat.zero_add, List.nil_append] at oq7
    have b7 : Below wr.heap.size wr w7 := (Below.refl wr.heap.size wr).grown hg7 (Nat.le_refl _) (fun g hg => (own.lt g hg).1)
    obtain ⟨q6, c6, rfl⟩ := own_form4 oq7
    have y7 := box_below b7 HYA.out (lt_of_block HYA.out)
    have k7 := bxc y7 1 (.slice none 0 0) rfl
    have fr := blk_free y7 1
    have yS := blk_set y7 1 (.slice q6 M.length c6)
    have gS := GRs.set (i := 1) (HGA.out.below b7) y7 (.slice q6 M.length c6)
    have oS := ownsRow_setCell_other oq7 (a := ⟨gb, 1, none⟩) (own_ne_ty oq7 y7 (by decide)) (.slice q6 M.length c6)
    have BS := (BW2.trans (b7.mono BW2.size)).setCell (p := ⟨gb, 1, none⟩) hbx (.slice q6 M.length c6)
    have HT := hid (show GTb (w7.setCell ⟨gb, 1, none⟩ (.slice q6 M.length c6)) gb (ratM M) B 3 from by
      refine ⟨ra, rc, q6, c6, vs, by rw [ratM_len, HBL.out]; exact yS, ?_, gS.len, fun i h1 h2 => gS.is_ i h1 h2, ?_⟩
      · have := gS.own
        rw [← gS.len] at this ⊢
        refine Row1.of_own (e := 68) (base := w.heap.size) ?_
        rw [gS.len, ratM_len]
        rw [gS.len, ratM_len] at this
        exact this
      · rw [HBL.out]
        refine Row1.of_own (e := 3) (base := wr.heap.size) ?_
        rw [intV_len, HBL.out]
        exact oS)
    have HBS := hid BS
    clear yS gS oS BS oq7 hg7 hat7 b7 y7 own src
    go_wp2
    go_ret2
    exact ⟨Or.inr ⟨HE.out, gb, rfl, hbx, HT.out⟩, HBS.out⟩
  have HY0 := hid (box_new wr (Obj.cells #[.slice none 0 0, .slice none 0 0] 67))
  have bA0 := (Below.refl wr.heap.size wr).alloc (Nat.le_refl _) (Obj.cells #[.slice none 0 0, .slice none 0 0] 67)
  have BW := chain2 bw bA0
  have hbx : w.heap.size ≤ wr.heap.size := bw.size
  have HL0 := hid (show GRs (wr.alloc (Obj.cells #[.slice none 0 0, .slice none 0 0] 67)) w.heap.size (.slice none 0 0) [] ((ratM M).take 0) 3 from grs_none _ _)
  have hpd : decide ((0 : Int) < (M.length : Int)) = false := decide_eq_false (by omega)
  have hn0 : ¬ (0 < M.length) := by omega
  have hn1 : ¬ ((0 : Int) < (M.length : Int)) := by omega
  have HH0 := hid h0
  clear h0
  go_wp2
  clear bA0 HI bw b0 hpd hn0 hn1
  generalize wr.alloc (Obj.cells #[.slice none 0 0, .slice none 0 0] 67) = W at *
  generalize wr.heap.size = gb at *
  go_loopw [8] (fun i wr => ∃ (k : Nat) (ra : Option Addr) (rc : Nat) (vs : List Value), k ≤ M.length ∧ i = .int .i64 (k : Int) ∧ Hid (wr.heap[gb]? = some (.cells #[.slice ra k rc, .slice none 0 0] 67 (0, 0))) ∧ Hid (GRs wr w.heap.size (.slice ra k rc) vs ((ratM M).take k) 3) ∧ Hid (∀ j (hj : j < M.length), j < k → bey M[j] = false) ∧ Below w.heap.size w wr) (fun i _ => M.length - (intOf i).toNat)
  case atStart => exact ⟨0, none, 0, [], Nat.zero_le _, rfl, HY0, HL0, fun j _ h => absurd h (Nat.not_lt_zero _), BW⟩
  case round =>
  clear HY0 HL0 BW
  obtain ⟨k, ra, rc, vs, hk, rfl, HY, HG, HBE, bw⟩ := hrel
  have HI := hid (HI0.out.below bw)
  have hgk := HG.out.slice
  have hrcc : k ≤ rc ∧ rc ≤ 9223372036854775807 := by
    obtain ⟨_, _, e, k1, k2⟩ := hgk
    simp only [Value.slice.injEq, List.length_take, ratM_len] at e k1
    omega
  clear hgk
  by_cases hlt : k < M.length
  · exfalso; have := HH0.out; omega
  obtain rfl : k = M.length := by omega
  have HGF := hid (show GRs wr w.heap.size (.slice ra M.length rc) vs (ratM M) 3 by
    have := HG.out
    rw [← ratM_len M, List.take_length] at this
    rw [ratM_len] at this
    exact this)
  have HNB := hid (anybey_no (M := M) (fun r hr => by obtain ⟨j, hj, rfl⟩ := List.getElem_of_mem hr; exact HBE.out j hj hj))
  have HR3 := hid (show R = if ucl B (wid M) = false then 1 else 0 by rw [HR2.out, if_neg (by rw [HNB.out]; have := HW2.out; simp; omega)])
  clear HR2 HG HBE HI hlt
  go_wp2
  have b4 := Below.refl wr.heap.size wr
  have HB0 := hid (HBI0.out.below bw)
  have HI := hid (HI0.out.below bw)
  generalize wr = W4 at *
  go_loopw [12] (fun i wr => ∃ (k : Nat), k ≤ M.length ∧ i = .int .i64 (k : Int) ∧ Hid (ucl (B.take k) (wid M) = true) ∧ Below W4.heap.size W4 wr) (fun i _ => M.length - (intOf i).toNat)
  case atStart => exact ⟨0, Nat.zero_le _, rfl, (by unfold ucl; rfl), b4⟩
  case round =>
  clear b4
  obtain ⟨k, hk, rfl, HUC, bk⟩ := hrel
  have BW2 : Below w.heap.size w wr := bw.trans (bk.mono bw.size)
  by_cases hlt : k < M.length
  · exfalso; have := HH0.out; omega
  obtain rfl : k = M.length := by omega
  have HE := hid (show R = 0 by
    have := HUC.out
    rw [← HBL.out, List.take_length] at this
    rw [HR3.out, if_neg (by rw [this]; decide)])
  have y1 := box_below bk HY.out (lt_of_block HY.out)
  have gr := HGF.out.below bk
  have k1 := bxc y1 1 (.slice none 0 0) rfl
  have own : wr.ownsRow wr.heap.size 3 1 (.slice none 0 0) 0 [] := ⟨rfl, .inl ⟨rfl, rfl⟩⟩
  have src : SrcOf wr 1 M.length (intV B) (.slice ba M.length bc) := by
    have hv := HB0.out.below bk
    have := ints_src hv (a := ba) (c := bc) (by rw [HBL.out])
    rw [HBL.out] at this
    exact this
  have HYA := hid y1
  have HGA := hid gr
  clear y1 gr HUC
  go_wp2_with (at_builtin; refine wpList_append_src rfl _ _ 23 rfl wr.heap.size 3 m0 (.int .i64 0) 1 8 Tryz.underlying23 hm0 mz0 mz1 mz2 rfl (by decide) _ 0 [] rfl own M.length (intV B) _ rfl src (by intro u hu; simp only [intV, List.mem_map] at hu; obtain ⟨x, _, rfl⟩ := hu; rfl) (by unfold maxLen; omega) (by omega) (Nat.le_refl _) ?_)
  intro v6 w7 oq7 hg7 hat7
  try simp only [Nat.zero_add, List.nil_append] at oq7
  have b7 : Below wr.heap.size wr w7 := (Below.refl wr.heap.size wr).grown hg7 (Nat.le_refl _) (fun g hg => (own.lt g hg).1)
  obtain ⟨q6, c6, rfl⟩ := own_form4 oq7
  have y7 := box_below b7 HYA.out (lt_of_block HYA.out)
  have k7 := bxc y7 1 (.slice none 0 0) rfl
  have fr := blk_free y7 1
  have yS := blk_set y7 1 (.slice q6 M.length c6)
  have gS := GRs.set (i := 1) (HGA.out.below b7) y7 (.slice q6 M.length c6)
  have oS := ownsRow_setCell_other oq7 (a := ⟨gb, 1, none⟩) (own_ne_ty oq7 y7 (by decide)) (.slice q6 M.length c6)
  have BS := (BW2.trans (b7.mono BW2.size)).setCell (p := ⟨gb, 1, none⟩) hbx (.slice q6 M.length c6)
  have HT := hid (show GTb (w7.setCell ⟨gb, 1, none⟩ (.slice q6 M.length c6)) gb (ratM M) B 3 from by
    refine ⟨ra, rc, q6, c6, vs, by rw [ratM_len, HBL.out]; exact yS, ?_, gS.len, fun i h1 h2 => gS.is_ i h1 h2, ?_⟩
    · have := gS.own
      rw [← gS.len] at this ⊢
      refine Row1.of_own (e := 68) (base := w.heap.size) ?_
      rw [gS.len, ratM_len]
      rw [gS.len, ratM_len] at this
      exact this
    · rw [HBL.out]
      refine Row1.of_own (e := 3) (base := wr.heap.size) ?_
      rw [intV_len, HBL.out]
      exact oS)
  have HBS := hid BS
  clear yS gS oS BS oq7 hg7 hat7 b7 y7 own src
  go_wp2
  go_ret2
  exact ⟨Or.inr ⟨HE.out, gb, rfl, hbx, HT.out⟩, HBS.out⟩
end Go.Proofs.YtgojlegknlalpaaGreatDoor
