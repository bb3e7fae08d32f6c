/- cert: Optimal. -/
import Derived.Test.YtbdhanlenekdhaaGreatDoorZCFark
import Derived.Test.YtbdhanlenekdhaaGreatDoorZOptM
namespace Go.Proofs.YtbdhanlenekdhaaGreatDoor
open Go.RowKit
set_option linter.unusedVariables false
set_option maxRecDepth 100000
set_option linter.unusedSimpArgs false

set_option maxHeartbeats 12800000 in
theorem cOptimal_any (w : World) (rv ev bv cv sv dv : Value) (P : Prb) (S D : List ByteArray) (hp : IsPrb w rv ev bv cv P) (hs : Strs w sv S) (hsz : chk P = 0 → ∀ s ∈ S, s.size ≤ 600) (hmx : Mx w) (htab : Tab w) (hd : Strs w dv D) (hdz : chk P = 0 → ∀ s ∈ D, s.size ≤ 600) (hrl : Rl w) (R : Bool) (hR : R = true ↔ OptS P S D) :
    Calls Tryz.prog 25 #[.agg #[rv, ev, bv, cv], sv, dv] w fun e w' => e = .returned (.bool R) ∧ Below w.heap.size w w' := by
  obtain ⟨ra, rc, rfl, rl, rm⟩ := hp.rows.slice
  obtain ⟨ea, ec, rfl, el, em⟩ := hp.rel.slice
  obtain ⟨ba, bc, rfl, bl, bm⟩ := hp.b.slice
  obtain ⟨ca, cc, rfl, cl, cm⟩ := hp.c.slice
  obtain ⟨sa, sc, rfl, sl, sm⟩ := hs.slice
  obtain ⟨da, dc, rfl, dl, dm⟩ := hd.slice
  unfold maxLen at rm em bm cm sm dm
  have b0 := (Below.refl w.heap.size w).alloc (Nat.le_refl _) (Obj.cells #[.slice ra P.rows.length rc, .slice ea P.rel.length ec, .slice ba P.b.length bc, .slice ca P.c.length cc] 25)
  have x0 := box_new w (Obj.cells #[.slice ra P.rows.length rc, .slice ea P.rel.length ec, .slice ba P.b.length bc, .slice ca P.c.length cc] 25)
  have y0 := bxc x0 0 (.slice ra P.rows.length rc) rfl
  have y1 := bxc x0 1 (.slice ea P.rel.length ec) rfl
  have y2 := bxc x0 2 (.slice ba P.b.length bc) rfl
  have y3 := bxc x0 3 (.slice ca P.c.length cc) rfl
  have HPB := hid x0
  have HP := hid (hp.below b0)
  have HS := hid (hs.below b0)
  have HMX := hid (hmx.below b0)
  have HTB := hid (htab.below b0)
  have HB0 := hid b0
  have HSZ := hid hsz
  have HD := hid (hd.below b0)
  have HDZ := hid hdz
  have HRL := hid (hrl.below b0)
  have HR0 := hid hR
  clear hp hs hmx htab b0 x0 hsz hrl hR hd hdz
  obtain ⟨RF, hRF⟩ := boolOf (FeaS P S)
  obtain ⟨RD, hRD⟩ := boolOf (DuaS P D)
  have HRF := hid hRF
  have HRD := hid hRD
  clear hRF hRD
  go_enter Tryz.func25, Tryz.ntmps25
  go_wp2_with fail
  generalize w.alloc (Obj.cells #[.slice ra P.rows.length rc, .slice ea P.rel.length ec, .slice ba P.b.length bc, .slice ca P.c.length cc] 25) = W at *
  refine (cFeasible_any W _ _ _ _ _ P S HP.out HS.out HSZ.out HMX.out HTB.out HRL.out RF HRF.out).mono ?_
  rintro e X1 ⟨rfl, bX1⟩
  have HB1 := hid (chain2 HB0.out bX1)
  have HPB1 := hid (box_below bX1 HPB.out (lt_of_block HPB.out))
  have HC1 := hid (cDual_any X1 _ _ _ _ _ P D (HP.out.below bX1) (HD.out.below bX1) HDZ.out (HMX.out.below bX1) (HTB.out.below bX1) (HRL.out.below bX1) RD HRD.out)
  have HV := hid (fun (Y : World) (bY : Below X1.heap.size X1 Y) => cValue_any Y _ _ _ _ _ P S ((HP.out.below bX1).below bY) ((HS.out.below bX1).below bY) HSZ.out ((HMX.out.below bX1).below bY) ((HTB.out.below bX1).below bY))
  have HBo := hid (fun (Y : World) (bY : Below X1.heap.size X1 Y) => cBound_any Y _ _ _ _ _ P D ((HP.out.below bX1).below bY) ((HD.out.below bX1).below bY) HDZ.out ((HMX.out.below bX1).below bY) ((HTB.out.below bX1).below bY))
  clear bX1 y0 y1 y2 y3
  have y0 := bxc HPB1.out 0 (.slice ra P.rows.length rc) rfl
  have y1 := bxc HPB1.out 1 (.slice ea P.rel.length ec) rfl
  have y2 := bxc HPB1.out 2 (.slice ba P.b.length bc) rfl
  have y3 := bxc HPB1.out 3 (.slice ca P.c.length cc) rfl
  cases RF with
  | false =>
    have HF := hid (bool_no HR0.out (fun hh => by have := HRF.out.2 hh.1; cases this))
    go_wp2
    go_ret
    exact ⟨by rw [HF.out]; rfl, HB1.out⟩
  | true =>
    go_wp2_with fail
    refine HC1.out.mono ?_
    rintro e X2 ⟨rfl, bX2⟩
    have HB2 := hid (chain2 HB1.out bX2)
    have HPB2 := hid (box_below bX2 HPB1.out (lt_of_block HPB1.out))
    have HX2 := hid bX2
    clear bX2 y0 y1 y2 y3
    have y0 := bxc HPB2.out 0 (.slice ra P.rows.length rc) rfl
    have y1 := bxc HPB2.out 1 (.slice ea P.rel.length ec) rfl
    have y2 := bxc HPB2.out 2 (.slice ba P.b.length bc) rfl
    have y3 := bxc HPB2.out 3 (.slice ca P.c.length cc) rfl
    cases RD with
    | false =>
      have HF := hid (bool_no HR0.out (fun hh => by have := HRD.out.2 hh.2.1; cases this))
      go_wp2
      go_ret
      exact ⟨by rw [HF.out]; rfl, HB2.out⟩
    | true =>
      go_wp2_with fail
      refine (HV.out X2 HX2.out).mono ?_
      rintro e X3 ⟨⟨s, er, rfl, hw1⟩, bX3⟩
      have HB3 := hid (chain2 HB2.out bX3)
      have HPB3 := hid (box_below bX3 HPB2.out (lt_of_block HPB2.out))
      have HX3 := hid (chain2 HX2.out bX3)
      have HW1 := hid hw1
      clear bX3 y0 y1 y2 y3 hw1
      have y0 := bxc HPB3.out 0 (.slice ra P.rows.length rc) rfl
      have y1 := bxc HPB3.out 1 (.slice ea P.rel.length ec) rfl
      have y2 := bxc HPB3.out 2 (.slice ba P.b.length bc) rfl
      have y3 := bxc HPB3.out 3 (.slice ca P.c.length cc) rfl
      go_wp2_with fail
      refine (HBo.out X3 HX3.out).mono ?_
      rintro e X4 ⟨⟨t, fr, rfl, hw2⟩, bX4⟩
      have HB4 := hid (chain2 HB3.out bX4)
      have HIF := hid (HR0.out.trans (opt_iff HW1.out hw2))
      have HFE := hid (HRF.out.1 (by first | rfl | trivial))
      have HDE := hid (HRD.out.1 (by first | rfl | trivial))
      have HE0 := hid (show er = 0 from by obtain ⟨f1, f2, X, f3, _⟩ := HFE.out; exact (HW1.out.yes' f1 f2 f3))
      have HF0 := hid (show fr = 0 from by obtain ⟨f1, f2, X, f3, _⟩ := HDE.out; exact (hw2.yes' f1 f2 f3))
      clear bX4 y0 y1 y2 y3 hw2
      by_cases hst : s = t
      · have HF := hid (show R = true from HIF.out.2 ⟨HE0.out, HF0.out, hst, HFE.out, HDE.out⟩)
        subst hst
        go_wp2
        go_ret
        exact ⟨by rw [HF.out]; first | rfl | simp, HB4.out⟩
      · have h2 : ¬ s.toList = t.toList := toL_neq hst
        have h3 : (s.toList == t.toList) = false := beq_eq_false_iff_ne.2 h2
        have HF := hid (bool_no HIF.out (fun hh => hst hh.2.2.1))
        go_wp2
        go_ret
        exact ⟨by rw [HF.out]; first | rfl | simp [h3], HB4.out⟩
end Go.Proofs.YtbdhanlenekdhaaGreatDoor
