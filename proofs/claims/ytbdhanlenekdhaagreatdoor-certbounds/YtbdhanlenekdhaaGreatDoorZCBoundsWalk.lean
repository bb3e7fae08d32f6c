/- CertBounds: the walk. -/
import Derived.Test.YtbdhanlenekdhaaGreatDoorPk42
import Derived.Test.YtbdhanlenekdhaaGreatDoorZCFark
import Derived.Deep.RegionHeld3
namespace Go.Proofs.YtbdhanlenekdhaaGreatDoor
open Go.RowKit
set_option linter.unusedVariables false
set_option maxRecDepth 100000
set_option linter.unusedSimpArgs false

set_option maxHeartbeats 25600000 in
theorem cbounds_any (w : World) (rv ev bv cv sv dv : Value) (P : Prb) (S D : List ByteArray) (hp : IsPrb w rv ev bv cv P) (hs : Strs w sv S) (hd : Strs w dv D) (hmx : Mx w) (htab : Tab w) (hrl : Rl w) :
    Calls Tryz.prog 5 #[.agg #[rv, ev, bv, cv], sv, dv] w fun e w' => e = .returned (.bool true) ∧ Below w.heap.size w w' := by
  obtain ⟨ra, rc, rfl, rl, rm⟩ := hp.rows.slice
  obtain ⟨ea, ec, rfl, el, em⟩ := hp.rel.slice
  obtain ⟨ba, bc, rfl, bl, bm⟩ := hp.b.slice
  obtain ⟨ca, cc, rfl, cl, cm⟩ := hp.c.slice
  obtain ⟨sa, sc, rfl, sl, sm⟩ := hs.slice
  obtain ⟨da, dc, rfl, dl, dm⟩ := hd.slice
  unfold maxLen at rm em bm cm sm dm
  have b0 := boxed2 (Below.refl w.heap.size w) (Obj.cells #[.slice ra P.rows.length rc, .slice ea P.rel.length ec, .slice ba P.b.length bc, .slice ca P.c.length cc] 25) (Obj.cells #[.slice sa S.length sc, .slice da D.length dc] 26)
  have x0 := boxed2_first w (Obj.cells #[.slice ra P.rows.length rc, .slice ea P.rel.length ec, .slice ba P.b.length bc, .slice ca P.c.length cc] 25) (Obj.cells #[.slice sa S.length sc, .slice da D.length dc] 26)
  have z0 := boxed2_second w (Obj.cells #[.slice ra P.rows.length rc, .slice ea P.rel.length ec, .slice ba P.b.length bc, .slice ca P.c.length cc] 25) (Obj.cells #[.slice sa S.length sc, .slice da D.length dc] 26)
  have y0 := bxc x0 0 (.slice ra P.rows.length rc) rfl
  have y1 := bxc x0 1 (.slice ea P.rel.length ec) rfl
  have y2 := bxc x0 2 (.slice ba P.b.length bc) rfl
  have y3 := bxc x0 3 (.slice ca P.c.length cc) rfl
  have HLI := hid (show StrRows _ (.slice (some ⟨w.heap.size + 1, 0, none⟩) 2 2) [S, D] from strRows2 z0 (hs.below b0) (hd.below b0))
  have HP0 := hid (hp.below b0)
  have HS0 := hid (hs.below b0)
  have HD0 := hid (hd.below b0)
  have HMX0 := hid (hmx.below b0)
  have HTB0 := hid (htab.below b0)
  have HRL0 := hid (hrl.below b0)
  have HB0 := hid b0
  have HPB0 := hid x0
  clear hp hmx htab hrl b0 x0 z0 hs hd
  go_enter Tryz.func5, Tryz.ntmps5
  go_wp2_with fail
  generalize (w.alloc (Obj.cells #[.slice ra P.rows.length rc, .slice ea P.rel.length ec, .slice ba P.b.length bc, .slice ca P.c.length cc] 25)).alloc (Obj.cells #[.slice sa S.length sc, .slice da D.length dc] 26) = W0 at *
  refine (heavy11_any W0 _ _ _ _ _ P [S, D] HP0.out HLI.out).mono ?_
  rintro e W ⟨⟨RH, rfl, hRH⟩, b⟩
  have HP := hid (HP0.out.below b)
  have HS := hid (HS0.out.below b)
  have HD := hid (HD0.out.below b)
  have HMX := hid (HMX0.out.below b)
  have HTB := hid (HTB0.out.below b)
  have HRL := hid (HRL0.out.below b)
  have HPB := hid (box_below b HPB0.out (lt_of_block HPB0.out))
  have HB := hid (chain2 HB0.out b)
  clear y0 y1 y2 y3 b HP0 HMX0 HTB0 HRL0 HPB0 HB0 HLI HS0 HD0
  cases RH with
  | true =>
    go_wp2
    go_ret
    exact ⟨rfl, HB.out⟩
  | false =>
  have HSZ := hid (fun (hc : chk P = 0) => hRH rfl (chk_ok hc).rl (by have := (chk_ok hc).rel; have := (chk_ok hc).rl; omega) (by have := (chk_ok hc).b; have := (chk_ok hc).rl; omega) (chk_ok hc).cl)
  clear hRH
  have bL : Below W.heap.size W W := Below.refl _ _
  have yW0 := bxc HPB.out 0 (.slice ra P.rows.length rc) rfl
  have yW1 := bxc HPB.out 1 (.slice ea P.rel.length ec) rfl
  have yW2 := bxc HPB.out 2 (.slice ba P.b.length bc) rfl
  have yW3 := bxc HPB.out 3 (.slice ca P.c.length cc) rfl
  have pbL := box_below bL HPB.out (lt_of_block HPB.out)
  have yL0 := bxc pbL 0 (.slice ra P.rows.length rc) rfl
  have yL1 := bxc pbL 1 (.slice ea P.rel.length ec) rfl
  have yL2 := bxc pbL 2 (.slice ba P.b.length bc) rfl
  have yL3 := bxc pbL 3 (.slice ca P.c.length cc) rfl
  clear pbL
  obtain ⟨cp, HCP⟩ : ∃ cp, Hid (chk P = cp) := ⟨_, hid rfl⟩
  have HCK : Hid (∀ Y, Below W.heap.size W Y → Calls Tryz.prog 9 #[.agg #[.slice ra P.rows.length rc, .slice ea P.rel.length ec, .slice ba P.b.length bc, .slice ca P.c.length cc]] Y (fun e w' => e = .returned (.int .i64 cp) ∧ Below Y.heap.size Y w')) := hid (fun Y bY => by rw [← HCP.out]; exact cCheck_any Y _ _ _ _ P (HP.out.below bY))
  have HHC : Hid (∀ Y, Below W.heap.size W Y → Calls Tryz.prog 10 #[.agg #[.slice ra P.rows.length rc, .slice ea P.rel.length ec, .slice ba P.b.length bc, .slice ca P.c.length cc]] Y (fun e w' => e = .returned (.int .i64 cp) ∧ Below Y.heap.size Y w')) := hid (fun Y bY => by rw [← HCP.out]; exact hCheck_any Y _ _ _ _ P (HP.out.below bY))
  have HTH := hid (fun (Y : World) (bY : Below W.heap.size W Y) => theirs11_any Y _ _ _ _ P (HP.out.below bY))
  have HSS := hid (fun (hc : chk P = 0) => sz_le (M := [S, D]) (S := S) (by simp) (HSZ.out hc))
  have HDS := hid (fun (hc : chk P = 0) => sz_le (M := [S, D]) (S := D) (by simp) (HSZ.out hc))
  obtain ⟨RF, HRF⟩ : ∃ RF : Bool, Hid (RF = true ↔ FeaS P S) := by obtain ⟨R, h⟩ := boolOf (FeaS P S); exact ⟨R, hid h⟩
  obtain ⟨RD, HRD⟩ : ∃ RD : Bool, Hid (RD = true ↔ DuaS P D) := by obtain ⟨R, h⟩ := boolOf (DuaS P D); exact ⟨R, hid h⟩
  have HFE := hid (fun (Y : World) (bY : Below W.heap.size W Y) => cFeasible_any Y _ _ _ _ _ P S (HP.out.below bY) (HS.out.below bY) HSS.out (HMX.out.below bY) (HTB.out.below bY) (HRL.out.below bY) RF HRF.out)
  have HDU := hid (fun (Y : World) (bY : Below W.heap.size W Y) => cDual_any Y _ _ _ _ _ P D (HP.out.below bY) (HD.out.below bY) HDS.out (HMX.out.below bY) (HTB.out.below bY) (HRL.out.below bY) RD HRD.out)
  have HHF := hid (fun (Y : World) (bY : Below W.heap.size W Y) => hFeasible_any Y _ _ _ _ _ P S (HP.out.below bY) (HS.out.below bY) HSS.out RF HRF.out)
  have HVA := hid (fun (Y : World) (bY : Below W.heap.size W Y) => cValue_any Y _ _ _ _ _ P S (HP.out.below bY) (HS.out.below bY) HSS.out (HMX.out.below bY) (HTB.out.below bY))
  have HBO := hid (fun (Y : World) (bY : Below W.heap.size W Y) => cBound_any Y _ _ _ _ _ P D (HP.out.below bY) (HD.out.below bY) HDS.out (HMX.out.below bY) (HTB.out.below bY))
  have F0 := bL.drew
  have HKx := hid (fun (Y : World) (k : Below W.heap.size W Y) => show (Y.cell? ⟨w.heap.size, 0, none⟩ = some (.slice ra P.rows.length rc) ∧ Y.cell? ⟨w.heap.size, 1, none⟩ = some (.slice ea P.rel.length ec) ∧ Y.cell? ⟨w.heap.size, 2, none⟩ = some (.slice ba P.b.length bc) ∧ Y.cell? ⟨w.heap.size, 3, none⟩ = some (.slice ca P.c.length cc)) from ⟨kc' k yW0, kc' k yW1, kc' k yW2, kc' k yW3⟩)
  go_wp2_with fail
  go_region_held3 (fun Z => Z.cell? ⟨w.heap.size, 0, none⟩ = some (.slice ra P.rows.length rc) ∧ Z.cell? ⟨w.heap.size, 1, none⟩ = some (.slice ea P.rel.length ec) ∧ Z.cell? ⟨w.heap.size, 2, none⟩ = some (.slice ba P.b.length bc) ∧ Z.cell? ⟨w.heap.size, 3, none⟩ = some (.slice ca P.c.length cc)) (first | exact HKx.out _ F3 | exact HKx.out _ F2 | exact HKx.out _ F1 | exact HKx.out _ F0) (first
    | (go_at_call 10; have gk := F2; refine (HHC.out _ F2).mono ?_; rintro e Yx ⟨rfl, bb⟩; have F3 := chain2 F2 bb)
    | (go_at_call 11; have gk := F1; refine (HTH.out _ F1).mono ?_; rintro e Yx ⟨rfl, bb⟩; have F2 := chain2 F1 bb)
    | (go_at_call 9; have gk := F0; refine (HCK.out _ F0).mono ?_; rintro e Yx ⟨rfl, bb⟩; have F1 := chain2 F0 bb))
  have bL := F3
  clear HKx F0 F1 F2 F3
  have pbL := box_below bL HPB.out (lt_of_block HPB.out); have yL0 := bxc pbL 0 (.slice ra P.rows.length rc) rfl; have yL1 := bxc pbL 1 (.slice ea P.rel.length ec) rfl; have yL2 := bxc pbL 2 (.slice ba P.b.length bc) rfl; have yL3 := bxc pbL 3 (.slice ca P.c.length cc) rfl; clear pbL
  cases RF with
  | false =>
    go_wp2_with fail
    refine (HFE.out _ (by first | exact bL | exact bL.drew | exact below_dn bL _)).mono ?_
    rintro e Yx ⟨rfl, b⟩; have bL : Below W.heap.size W Yx := (by first | exact chain2 bL b | exact chain2 bL ⟨b.os, b.tape, b.output, b.size, b.block⟩); have pbL := box_below bL HPB.out (lt_of_block HPB.out); have yL0 := bxc pbL 0 (.slice ra P.rows.length rc) rfl; have yL1 := bxc pbL 1 (.slice ea P.rel.length ec) rfl; have yL2 := bxc pbL 2 (.slice ba P.b.length bc) rfl; have yL3 := bxc pbL 3 (.slice ca P.c.length cc) rfl; clear pbL; clear b
    go_wp2_with fail
    refine (HFE.out _ (by first | exact bL | exact bL.drew | exact below_dn bL _)).mono ?_
    rintro e Yx ⟨rfl, b⟩; have bL : Below W.heap.size W Yx := (by first | exact chain2 bL b | exact chain2 bL ⟨b.os, b.tape, b.output, b.size, b.block⟩); have pbL := box_below bL HPB.out (lt_of_block HPB.out); have yL0 := bxc pbL 0 (.slice ra P.rows.length rc) rfl; have yL1 := bxc pbL 1 (.slice ea P.rel.length ec) rfl; have yL2 := bxc pbL 2 (.slice ba P.b.length bc) rfl; have yL3 := bxc pbL 3 (.slice ca P.c.length cc) rfl; clear pbL; clear b
    have F0 := bL.drew
    have HKx := hid (fun (Y : World) (k : Below W.heap.size W Y) => show (Y.cell? ⟨w.heap.size, 0, none⟩ = some (.slice ra P.rows.length rc) ∧ Y.cell? ⟨w.heap.size, 1, none⟩ = some (.slice ea P.rel.length ec) ∧ Y.cell? ⟨w.heap.size, 2, none⟩ = some (.slice ba P.b.length bc) ∧ Y.cell? ⟨w.heap.size, 3, none⟩ = some (.slice ca P.c.length cc)) from ⟨kc' k yW0, kc' k yW1, kc' k yW2, kc' k yW3⟩)
    go_wp2_with fail
    go_region_held3 (fun Z => Z.cell? ⟨w.heap.size, 0, none⟩ = some (.slice ra P.rows.length rc) ∧ Z.cell? ⟨w.heap.size, 1, none⟩ = some (.slice ea P.rel.length ec) ∧ Z.cell? ⟨w.heap.size, 2, none⟩ = some (.slice ba P.b.length bc) ∧ Z.cell? ⟨w.heap.size, 3, none⟩ = some (.slice ca P.c.length cc)) (first | exact HKx.out _ F3 | exact HKx.out _ F2 | exact HKx.out _ F1 | exact HKx.out _ F0) (first
      | (go_at_call 24; have gk := F2; refine (HHF.out _ F2).mono ?_; rintro e Yx ⟨rfl, bb⟩; have F3 := chain2 F2 bb)
      | (go_at_call 11; have gk := F1; refine (HTH.out _ F1).mono ?_; rintro e Yx ⟨rfl, bb⟩; have F2 := chain2 F1 bb)
      | (go_at_call 23; have gk := F0; refine (HFE.out _ F0).mono ?_; rintro e Yx ⟨rfl, bb⟩; have F1 := chain2 F0 bb))
    have bL := F3
    clear HKx F0 F1 F2 F3
    have BF := chain2 HB.out bL
    go_wp2
    go_ret
    exact ⟨rfl, by first | exact BF | exact BF.drew | exact below_dn BF _⟩
  | true =>
    have HFA := hid (fun (Y : World) (bY : Below W.heap.size W Y) => cFarkas_any Y _ _ _ _ _ P D (HP.out.below bY) (HD.out.below bY) HDS.out (HMX.out.below bY) (HTB.out.below bY) (HRL.out.below bY) false ⟨fun h => (by cases h), fun h => (fea_far (HRF.out.1 (by first | rfl | trivial)) h).elim⟩)
    go_wp2_with fail
    refine (HFE.out _ (by first | exact bL | exact bL.drew | exact below_dn bL _)).mono ?_
    rintro e Yx ⟨rfl, b⟩; have bL : Below W.heap.size W Yx := (by first | exact chain2 bL b | exact chain2 bL ⟨b.os, b.tape, b.output, b.size, b.block⟩); have pbL := box_below bL HPB.out (lt_of_block HPB.out); have yL0 := bxc pbL 0 (.slice ra P.rows.length rc) rfl; have yL1 := bxc pbL 1 (.slice ea P.rel.length ec) rfl; have yL2 := bxc pbL 2 (.slice ba P.b.length bc) rfl; have yL3 := bxc pbL 3 (.slice ca P.c.length cc) rfl; clear pbL; clear b
    go_wp2_with fail
    refine (HFA.out _ (by first | exact bL | exact bL.drew | exact below_dn bL _)).mono ?_
    rintro e Yx ⟨rfl, b⟩; have bL : Below W.heap.size W Yx := (by first | exact chain2 bL b | exact chain2 bL ⟨b.os, b.tape, b.output, b.size, b.block⟩); have pbL := box_below bL HPB.out (lt_of_block HPB.out); have yL0 := bxc pbL 0 (.slice ra P.rows.length rc) rfl; have yL1 := bxc pbL 1 (.slice ea P.rel.length ec) rfl; have yL2 := bxc pbL 2 (.slice ba P.b.length bc) rfl; have yL3 := bxc pbL 3 (.slice ca P.c.length cc) rfl; clear pbL; clear b
    go_wp2_with fail
    refine (HFE.out _ (by first | exact bL | exact bL.drew | exact below_dn bL _)).mono ?_
    rintro e Yx ⟨rfl, b⟩; have bL : Below W.heap.size W Yx := (by first | exact chain2 bL b | exact chain2 bL ⟨b.os, b.tape, b.output, b.size, b.block⟩); have pbL := box_below bL HPB.out (lt_of_block HPB.out); have yL0 := bxc pbL 0 (.slice ra P.rows.length rc) rfl; have yL1 := bxc pbL 1 (.slice ea P.rel.length ec) rfl; have yL2 := bxc pbL 2 (.slice ba P.b.length bc) rfl; have yL3 := bxc pbL 3 (.slice ca P.c.length cc) rfl; clear pbL; clear b
    go_wp2_with fail
    refine (HDU.out _ (by first | exact bL | exact bL.drew | exact below_dn bL _)).mono ?_
    rintro e Yx ⟨rfl, b⟩; have bL : Below W.heap.size W Yx := (by first | exact chain2 bL b | exact chain2 bL ⟨b.os, b.tape, b.output, b.size, b.block⟩); have pbL := box_below bL HPB.out (lt_of_block HPB.out); have yL0 := bxc pbL 0 (.slice ra P.rows.length rc) rfl; have yL1 := bxc pbL 1 (.slice ea P.rel.length ec) rfl; have yL2 := bxc pbL 2 (.slice ba P.b.length bc) rfl; have yL3 := bxc pbL 3 (.slice ca P.c.length cc) rfl; clear pbL; clear b
    cases RD with
    | false =>
      have F0 := bL.drew
      have HKx := hid (fun (Y : World) (k : Below W.heap.size W Y) => show (Y.cell? ⟨w.heap.size, 0, none⟩ = some (.slice ra P.rows.length rc) ∧ Y.cell? ⟨w.heap.size, 1, none⟩ = some (.slice ea P.rel.length ec) ∧ Y.cell? ⟨w.heap.size, 2, none⟩ = some (.slice ba P.b.length bc) ∧ Y.cell? ⟨w.heap.size, 3, none⟩ = some (.slice ca P.c.length cc)) from ⟨kc' k yW0, kc' k yW1, kc' k yW2, kc' k yW3⟩)
      go_wp2_with fail
      go_region_held3 (fun Z => Z.cell? ⟨w.heap.size, 0, none⟩ = some (.slice ra P.rows.length rc) ∧ Z.cell? ⟨w.heap.size, 1, none⟩ = some (.slice ea P.rel.length ec) ∧ Z.cell? ⟨w.heap.size, 2, none⟩ = some (.slice ba P.b.length bc) ∧ Z.cell? ⟨w.heap.size, 3, none⟩ = some (.slice ca P.c.length cc)) (first | exact HKx.out _ F3 | exact HKx.out _ F2 | exact HKx.out _ F1 | exact HKx.out _ F0) (first
        | (go_at_call 24; have gk := F2; refine (HHF.out _ F2).mono ?_; rintro e Yx ⟨rfl, bb⟩; have F3 := chain2 F2 bb)
        | (go_at_call 11; have gk := F1; refine (HTH.out _ F1).mono ?_; rintro e Yx ⟨rfl, bb⟩; have F2 := chain2 F1 bb)
        | (go_at_call 23; have gk := F0; refine (HFE.out _ F0).mono ?_; rintro e Yx ⟨rfl, bb⟩; have F1 := chain2 F0 bb))
      have bL := F3
      clear HKx F0 F1 F2 F3
      have BF := chain2 HB.out bL
      go_wp2
      go_ret
      exact ⟨rfl, by first | exact BF | exact BF.drew | exact below_dn BF _⟩
    | true =>
      obtain ⟨f1, f2, X, f3, f4, f5⟩ := HRF.out.1 (by first | rfl | trivial)
      obtain ⟨d1, d2, Z, d3, d4, d5⟩ := HRD.out.1 (by first | rfl | trivial)
      have ok := chk_ok f1
      have HLE := hid (weak_dual ok.rel ok.b (by rw [d3.len, d2, ok.b]) (by rw [f3.len, f2]) f4 f5 d4 d5)
      have HVY := hid (fun (s : ByteArray) (er : Int) (h : WorS P P.c S s er) => h.yes f1 f2 f3)
      have HBY := hid (fun (s : ByteArray) (er : Int) (h : WorS P P.b D s er) => h.yes f1 d2 d3)
      have HL1 := hid (dot_lt47 ok.c9 (f3.lt (HSS.out f1)) (by rw [f3.len, f2]; exact Nat.le_refl _) (by rw [f3.len, f2]; exact ok.cl))
      have HL2 := hid (dot_lt47 ok.b9 (d3.lt (HDS.out f1)) (by rw [d3.len, d2]; exact Nat.le_refl _) (by rw [d3.len, d2, ok.b]; exact ok.rl))
      clear f1 f2 f3 f4 f5 d1 d2 d3 d4 d5 ok
      generalize dot P.c X = V1 at *
      generalize dot P.b Z = V2 at *
      go_wp2_with fail
      refine (HVA.out _ (by first | exact bL | exact bL.drew | exact below_dn bL _)).mono ?_
      rintro e Yx ⟨⟨tx1, er1, rfl, hw1⟩, b⟩; have bL : Below W.heap.size W Yx := (by first | exact chain2 bL b | exact chain2 bL ⟨b.os, b.tape, b.output, b.size, b.block⟩); have pbL := box_below bL HPB.out (lt_of_block HPB.out); have yL0 := bxc pbL 0 (.slice ra P.rows.length rc) rfl; have yL1 := bxc pbL 1 (.slice ea P.rel.length ec) rfl; have yL2 := bxc pbL 2 (.slice ba P.b.length bc) rfl; have yL3 := bxc pbL 3 (.slice ca P.c.length cc) rfl; clear pbL; clear b
      obtain ⟨rfl, ht1⟩ := HVY.out _ _ hw1
      have HT1 := hid ht1
      clear hw1 ht1
      go_wp2_with fail
      refine (HBO.out _ (by first | exact bL | exact bL.drew | exact below_dn bL _)).mono ?_
      rintro e Yx ⟨⟨tx2, er2, rfl, hw2⟩, b⟩; have bL : Below W.heap.size W Yx := (by first | exact chain2 bL b | exact chain2 bL ⟨b.os, b.tape, b.output, b.size, b.block⟩); have pbL := box_below bL HPB.out (lt_of_block HPB.out); have yL0 := bxc pbL 0 (.slice ra P.rows.length rc) rfl; have yL1 := bxc pbL 1 (.slice ea P.rel.length ec) rfl; have yL2 := bxc pbL 2 (.slice ba P.b.length bc) rfl; have yL3 := bxc pbL 3 (.slice ca P.c.length cc) rfl; clear pbL; clear b
      obtain ⟨rfl, ht2⟩ := HBY.out _ _ hw2
      have HT2 := hid ht2
      clear hw2 ht2
      have hz1 := txr_len HT1.out HL1.out (by omega)
      have hz2 := txr_len HT2.out HL2.out (by omega)
      have HP1 := hid (fun (Y : World) => t_parse_of tx1 V1 Y HT1.out (by omega))
      have HP2 := hid (fun (Y : World) => t_parse_of tx2 V2 Y HT2.out (by omega))
      clear yL0 yL1 yL2 yL3
      go_wp2_with fail
      refine (HP1.out _).mono ?_
      rintro e Y1 ⟨⟨s1, s2, s3, s4, s5, s6, s7, s8, rfl, n1⟩, b⟩
      have bL : Below W.heap.size W Y1 := (by first | exact chain2 bL b | exact chain2 bL ⟨b.os, b.tape, b.output, b.size, b.block⟩)
      have bA := (Below.refl Y1.heap.size Y1).alloc (Nat.le_refl _) (Obj.cells #[.bool s1, .slice s2 s3 s4, .bool s5, .slice s6 s7 s8] 43)
      have bL := chain2 bL bA
      have N1 := hid ((n1.below bA).mono (show tx1.size / 9 + 8 ≤ 20000 by omega))
      have X1 := hid (box_new Y1 (Obj.cells #[.bool s1, .slice s2 s3 s4, .bool s5, .slice s6 s7 s8] 43))
      clear b bA n1
      go_wp2_with (refine wpList_store_fresh rfl 43 _ _ rfl _ _ _ rfl (by simp) rfl 4 info_refRat (by rfl) (by rfl) (by simp [Value.oneCell']) ?_)
      generalize Y1.alloc (Obj.cells #[.bool s1, .slice s2 s3 s4, .bool s5, .slice s6 s7 s8] 43) = W1 at *
      generalize Y1.heap.size = g1 at *
      refine (HP2.out _).mono ?_
      rintro e Y2 ⟨⟨t1, t2, t3, t4, t5, t6, t7, t8, rfl, n2⟩, b⟩
      have bL : Below W.heap.size W Y2 := (by first | exact chain2 bL b | exact chain2 bL ⟨b.os, b.tape, b.output, b.size, b.block⟩)
      have bA := (Below.refl Y2.heap.size Y2).alloc (Nat.le_refl _) (Obj.cells #[.bool t1, .slice t2 t3 t4, .bool t5, .slice t6 t7 t8] 43)
      have bL := chain2 bL bA
      have N2 := hid ((n2.below bA).mono (show tx2.size / 9 + 8 ≤ 20000 by omega))
      have M1 := hid (N1.out.below (chain2 b bA))
      obtain ⟨u0, u1, u2, u3⟩ := four_cell (box_below (chain2 b bA) X1.out (lt_of_block X1.out))
      obtain ⟨v0, v1, v2, v3⟩ := four_cell (box_new Y2 (Obj.cells #[.bool t1, .slice t2 t3 t4, .bool t5, .slice t6 t7 t8] 43))
      have hcm := cmp_le HLE.out
      have HCM := hid (t_cmp _ _ _ V1 V2 20000 (by omega) M1.out N2.out)
      clear b bA n2
      generalize cmpR V1 V2 = cr at *
      go_wp2_with (refine wpList_store_fresh rfl 43 _ _ rfl _ _ _ rfl (by simp) rfl 4 info_refRat (by rfl) (by rfl) (by simp [Value.oneCell']) ?_)
      generalize Y2.alloc (Obj.cells #[.bool t1, .slice t2 t3 t4, .bool t5, .slice t6 t7 t8] 43) = W2 at *
      generalize Y2.heap.size = g2 at *
      refine HCM.out.mono ?_
      rintro e Y3 ⟨rfl, b⟩
      have BF := chain2 HB.out (chain2 bL b)
      clear u0 u1 u2 u3 v0 v1 v2 v3 b
      go_wp2
      go_ret
      exact ⟨by first | rfl | simp [hcm], BF⟩
end Go.Proofs.YtbdhanlenekdhaaGreatDoor
