/- cert: the document: Optimal. -/
import Derived.Test.YtbdhanlenekdhaaGreatDoorZHDual
import Derived.Test.YtbdhanlenekdhaaGreatDoorZOptM
namespace Go.Proofs.YtbdhanlenekdhaaGreatDoor
open Go.RowKit
set_option linter.unusedVariables false
set_option maxRecDepth 100000
set_option linter.unusedSimpArgs false

set_option maxHeartbeats 12800000 in
theorem hOptimal_any (w : World) (rv ev bv cv sv dv : Value) (P : Prb) (S D : List ByteArray) (hp : IsPrb w rv ev bv cv P) (hs : Strs w sv S) (hsz : chk P = 0 → ∀ s ∈ S, s.size ≤ 600) (hd : Strs w dv D) (hdz : chk P = 0 → ∀ s ∈ D, s.size ≤ 600) (R : Bool) (hR : R = true ↔ OptS P S D) :
    Calls Tryz.prog 26 #[.agg #[rv, ev, bv, cv], sv, dv] w fun e w' => e = .returned (.bool R) ∧ Below w.heap.size w w' := by
  obtain ⟨ra, rc, rfl, rl, rm⟩ := hp.rows.slice
  obtain ⟨ea, ec, rfl, el, em⟩ := hp.rel.slice
  obtain ⟨ba, bc, rfl, bl, bm⟩ := hp.b.slice
  obtain ⟨ca, cc, rfl, cl, cm⟩ := hp.c.slice
  obtain ⟨sa, sc, rfl, sl, sm⟩ := hs.slice
  obtain ⟨da, dc, rfl, dl, dm⟩ := hd.slice
  unfold maxLen at rm em bm cm sm dm
  have b0 := (Below.refl w.heap.size w).alloc (Nat.le_refl _) (Obj.cells #[.slice ra P.rows.length rc, .slice ea P.rel.length ec, .slice ba P.b.length bc, .slice ca P.c.length cc] 32)
  have x0 := box_new w (Obj.cells #[.slice ra P.rows.length rc, .slice ea P.rel.length ec, .slice ba P.b.length bc, .slice ca P.c.length cc] 32)
  have y0 := bxc x0 0 (.slice ra P.rows.length rc) rfl
  have y1 := bxc x0 1 (.slice ea P.rel.length ec) rfl
  have y2 := bxc x0 2 (.slice ba P.b.length bc) rfl
  have y3 := bxc x0 3 (.slice ca P.c.length cc) rfl
  have HPB := hid x0
  have HP := hid (hp.below b0)
  have HB0 := hid b0
  have HS := hid (hs.below b0)
  have HSZ := hid hsz
  have HD := hid (hd.below b0)
  have HDZ := hid hdz
  have HR0 := hid hR
  clear hp hs b0 x0 hsz hR hd hdz
  go_enter Tryz.func26, Tryz.ntmps26
  go_wp2_with fail
  generalize w.alloc (Obj.cells #[.slice ra P.rows.length rc, .slice ea P.rel.length ec, .slice ba P.b.length bc, .slice ca P.c.length cc] 32) = W at *
  refine (hValue_any W _ _ _ _ _ P S HP.out HS.out HSZ.out).mono ?_
  rintro e X1 ⟨⟨s, er, rfl, hw1⟩, bX1⟩
  have HP1 := hid (HP.out.below bX1)
  have HS1 := hid (HS.out.below bX1)
  have HD1 := hid (HD.out.below bX1)
  have HPB1 := hid (box_below bX1 HPB.out (lt_of_block HPB.out))
  have HB1 := hid (chain2 HB0.out bX1)
  have HW1 := hid hw1
  clear bX1 y0 y1 y2 y3 hw1 HP HS HD HPB HB0
  have y0 := bxc HPB1.out 0 (.slice ra P.rows.length rc) rfl
  have y1 := bxc HPB1.out 1 (.slice ea P.rel.length ec) rfl
  have y2 := bxc HPB1.out 2 (.slice ba P.b.length bc) rfl
  have y3 := bxc HPB1.out 3 (.slice ca P.c.length cc) rfl
  go_wp2_with fail
  refine (hBound_any X1 _ _ _ _ _ P D HP1.out HD1.out HDZ.out).mono ?_
  rintro e X2 ⟨⟨t, fr, rfl, hw2⟩, bX2⟩
  have HP2 := hid (HP1.out.below bX2)
  have HS2 := hid (HS1.out.below bX2)
  have HD2 := hid (HD1.out.below bX2)
  have HPB2 := hid (box_below bX2 HPB1.out (lt_of_block HPB1.out))
  have HB2 := hid (chain2 HB1.out bX2)
  have HIF := hid (HR0.out.trans (opt_iff HW1.out hw2))
  clear bX2 y0 y1 y2 y3 hw2 HP1 HS1 HD1 HPB1 HB1 HW1 HR0
  have y0 := bxc HPB2.out 0 (.slice ra P.rows.length rc) rfl
  have y1 := bxc HPB2.out 1 (.slice ea P.rel.length ec) rfl
  have y2 := bxc HPB2.out 2 (.slice ba P.b.length bc) rfl
  have y3 := bxc HPB2.out 3 (.slice ca P.c.length cc) rfl
  by_cases he : er = 0
  case neg =>
    have he1 : (er == 0) = false := beq_eq_false_iff_ne.2 he
    have HF := hid (bool_no HIF.out (fun hh => he hh.1))
    go_wp2
    go_ret
    exact ⟨by rw [HF.out]; rfl, HB2.out⟩
  by_cases hf : fr = 0
  case neg =>
    have he1 : (fr == 0) = false := beq_eq_false_iff_ne.2 hf
    have HF := hid (bool_no HIF.out (fun hh => hf hh.2.1))
    subst he
    go_wp2
    go_ret
    exact ⟨by rw [HF.out]; rfl, HB2.out⟩
  subst he
  subst hf
  by_cases hst : s = t
  case neg =>
    have h2 : ¬ s.toList = t.toList := toL_neq hst
    have h3 : (s.toList == t.toList) = false := beq_eq_false_iff_ne.2 h2
    have HF := hid (bool_no HIF.out (fun hh => hst hh.2.2.1))
    go_wp2
    go_ret
    exact ⟨by rw [HF.out]; rfl, HB2.out⟩
  subst hst
  obtain ⟨RF, hRF⟩ := boolOf (FeaS P S)
  obtain ⟨RD, hRD⟩ := boolOf (DuaS P D)
  have HIG := hid (show R = true ↔ RF = true ∧ RD = true by rw [hRF, hRD]; exact HIF.out.trans ⟨fun hh => hh.2.2.2, fun hh => ⟨rfl, rfl, rfl, hh⟩⟩)
  have HCF := hid (hFeasible_any X2 _ _ _ _ _ P S HP2.out HS2.out HSZ.out RF hRF)
  have HCD := hid (fun (Y : World) (bY : Below X2.heap.size X2 Y) => hDual_any Y _ _ _ _ _ P D (HP2.out.below bY) (HD2.out.below bY) HDZ.out RD hRD)
  clear hRF hRD HIF
  go_wp2_with fail
  refine HCF.out.mono ?_
  rintro e X3 ⟨rfl, bX3⟩
  have HPB3 := hid (box_below bX3 HPB2.out (lt_of_block HPB2.out))
  have HB3 := hid (chain2 HB2.out bX3)
  have HC3 := hid (HCD.out X3 bX3)
  clear bX3 y0 y1 y2 y3
  have y0 := bxc HPB3.out 0 (.slice ra P.rows.length rc) rfl
  have y1 := bxc HPB3.out 1 (.slice ea P.rel.length ec) rfl
  have y2 := bxc HPB3.out 2 (.slice ba P.b.length bc) rfl
  have y3 := bxc HPB3.out 3 (.slice ca P.c.length cc) rfl
  cases RF with
  | false =>
    have HF := hid (bool_no HIG.out (fun hh => by cases hh.1))
    go_wp2
    go_ret
    exact ⟨by rw [HF.out]; rfl, HB3.out⟩
  | true =>
    have HF := hid (show R = RD by
      cases hb : RD with
      | true => exact HIG.out.2 ⟨rfl, hb⟩
      | false => exact bool_no HIG.out (fun hh => by rw [hb] at hh; cases hh.2))
    go_wp2_with fail
    refine HC3.out.mono ?_
    rintro e X4 ⟨rfl, bX4⟩
    have HB4 := hid (chain2 HB3.out bX4)
    clear bX4 y0 y1 y2 y3
    go_wp2
    go_ret
    exact ⟨by rw [HF.out]; rfl, HB4.out⟩
end Go.Proofs.YtbdhanlenekdhaaGreatDoor
