/- CertSays: the walk. -/
import Derived.Test.YtbdhanlenekdhaaGreatDoorPk42
import Derived.Test.YtbdhanlenekdhaaGreatDoorZCRay
import Derived.Test.YtbdhanlenekdhaaGreatDoorZCOpt
import Derived.Test.YtbdhanlenekdhaaGreatDoorZHRay
import Derived.Test.YtbdhanlenekdhaaGreatDoorZHOpt
import Derived.Deep.RegionHeld3
namespace Go.Proofs.YtbdhanlenekdhaaGreatDoor
open Go.RowKit
set_option linter.unusedVariables false
set_option maxRecDepth 100000
set_option linter.unusedSimpArgs false

theorem bool_self (b : Bool) : (b == b) = true := by simp
set_option maxHeartbeats 25600000 in
theorem csays_any (w : World) (rv ev bv cv sv dv uv : Value) (P : Prb) (S D U : List ByteArray) (hp : IsPrb w rv ev bv cv P) (hs : Strs w sv S) (hd : Strs w dv D) (hu : Strs w uv U) (hmx : Mx w) (htab : Tab w) (hrl : Rl w) :
    Calls Tryz.prog 4 #[.agg #[rv, ev, bv, cv], sv, dv, uv] w fun e w' => e = .returned (.bool true) ∧ Below w.heap.size w w' := by
  obtain ⟨ra, rc, rfl, rl, rm⟩ := hp.rows.slice
  obtain ⟨ea, ec, rfl, el, em⟩ := hp.rel.slice
  obtain ⟨ba, bc, rfl, bl, bm⟩ := hp.b.slice
  obtain ⟨ca, cc, rfl, cl, cm⟩ := hp.c.slice
  obtain ⟨sa, sc, rfl, sl, sm⟩ := hs.slice
  obtain ⟨da, dc, rfl, dl, dm⟩ := hd.slice
  obtain ⟨ua, uc, rfl, ul, um⟩ := hu.slice
  unfold maxLen at rm em bm cm sm dm um
  have b0 := boxed2 (Below.refl w.heap.size w) (Obj.cells #[.slice ra P.rows.length rc, .slice ea P.rel.length ec, .slice ba P.b.length bc, .slice ca P.c.length cc] 25) (Obj.cells #[.slice sa S.length sc, .slice da D.length dc, .slice ua U.length uc] 26)
  have x0 := boxed2_first w (Obj.cells #[.slice ra P.rows.length rc, .slice ea P.rel.length ec, .slice ba P.b.length bc, .slice ca P.c.length cc] 25) (Obj.cells #[.slice sa S.length sc, .slice da D.length dc, .slice ua U.length uc] 26)
  have z0 := boxed2_second w (Obj.cells #[.slice ra P.rows.length rc, .slice ea P.rel.length ec, .slice ba P.b.length bc, .slice ca P.c.length cc] 25) (Obj.cells #[.slice sa S.length sc, .slice da D.length dc, .slice ua U.length uc] 26)
  have y0 := bxc x0 0 (.slice ra P.rows.length rc) rfl
  have y1 := bxc x0 1 (.slice ea P.rel.length ec) rfl
  have y2 := bxc x0 2 (.slice ba P.b.length bc) rfl
  have y3 := bxc x0 3 (.slice ca P.c.length cc) rfl
  have HLI := hid (show StrRows _ (.slice (some ⟨w.heap.size + 1, 0, none⟩) 3 3) [S, D, U] from strRows3 z0 (hs.below b0) (hd.below b0) (hu.below b0))
  have HP0 := hid (hp.below b0)
  have HS0 := hid (hs.below b0)
  have HD0 := hid (hd.below b0)
  have HU0 := hid (hu.below b0)
  have HMX0 := hid (hmx.below b0)
  have HTB0 := hid (htab.below b0)
  have HRL0 := hid (hrl.below b0)
  have HB0 := hid b0
  have HPB0 := hid x0
  clear hp hmx htab hrl b0 x0 z0 hs hd hu
  go_enter Tryz.func4, Tryz.ntmps4
  go_wp2_with fail
  generalize (w.alloc (Obj.cells #[.slice ra P.rows.length rc, .slice ea P.rel.length ec, .slice ba P.b.length bc, .slice ca P.c.length cc] 25)).alloc (Obj.cells #[.slice sa S.length sc, .slice da D.length dc, .slice ua U.length uc] 26) = W0 at *
  refine (heavy11_any W0 _ _ _ _ _ P [S, D, U] HP0.out HLI.out).mono ?_
  rintro e W ⟨⟨RH, rfl, hRH⟩, b⟩
  have HP := hid (HP0.out.below b)
  have HS := hid (HS0.out.below b)
  have HD := hid (HD0.out.below b)
  have HU := hid (HU0.out.below b)
  have HMX := hid (HMX0.out.below b)
  have HTB := hid (HTB0.out.below b)
  have HRL := hid (HRL0.out.below b)
  have HPB := hid (box_below b HPB0.out (lt_of_block HPB0.out))
  have HB := hid (chain2 HB0.out b)
  clear y0 y1 y2 y3 b HP0 HMX0 HTB0 HRL0 HPB0 HB0 HLI HS0 HD0 HU0
  cases RH with
  | true =>
    go_wp2
    go_ret
    exact ⟨rfl, HB.out⟩
  | false =>
  have HSZ := hid (fun (hc : chk P = 0) => hRH rfl (chk_ok hc).rl (by have := (chk_ok hc).rel; have := (chk_ok hc).rl; omega) (by have := (chk_ok hc).b; have := (chk_ok hc).rl; omega) (chk_ok hc).cl)
  clear hRH
  have bL : Below W.heap.size W W := Below.refl _ _
  have yW0 := bxc HPB.out 0 (.slice ra P.rows.length rc) rfl
  have yW1 := bxc HPB.out 1 (.slice ea P.rel.length ec) rfl
  have yW2 := bxc HPB.out 2 (.slice ba P.b.length bc) rfl
  have yW3 := bxc HPB.out 3 (.slice ca P.c.length cc) rfl
  have pbL := box_below bL HPB.out (lt_of_block HPB.out)
  have yL0 := bxc pbL 0 (.slice ra P.rows.length rc) rfl
  have yL1 := bxc pbL 1 (.slice ea P.rel.length ec) rfl
  have yL2 := bxc pbL 2 (.slice ba P.b.length bc) rfl
  have yL3 := bxc pbL 3 (.slice ca P.c.length cc) rfl
  clear pbL
  have HTH := hid (fun (Y : World) (bY : Below W.heap.size W Y) => theirs11_any Y _ _ _ _ P (HP.out.below bY))
  have HSS := hid (fun (hc : chk P = 0) => sz_le (M := [S, D, U]) (S := S) (by simp) (HSZ.out hc))
  have HDS := hid (fun (hc : chk P = 0) => sz_le (M := [S, D, U]) (S := D) (by simp) (HSZ.out hc))
  have HUS := hid (fun (hc : chk P = 0) => sz_le (M := [S, D, U]) (S := U) (by simp) (HSZ.out hc))
  go_wp2_with fail
  refine (HTH.out _ (by first | exact bL | exact bL.drew | exact below_dn bL _)).mono ?_
  rintro e Yx ⟨rfl, b⟩; have bL : Below W.heap.size W Yx := (by first | exact chain2 bL b | exact chain2 bL ⟨b.os, b.tape, b.output, b.size, b.block⟩); have pbL := box_below bL HPB.out (lt_of_block HPB.out); have yL0 := bxc pbL 0 (.slice ra P.rows.length rc) rfl; have yL1 := bxc pbL 1 (.slice ea P.rel.length ec) rfl; have yL2 := bxc pbL 2 (.slice ba P.b.length bc) rfl; have yL3 := bxc pbL 3 (.slice ca P.c.length cc) rfl; clear pbL; clear b
  have bA := (Below.refl Yx.heap.size Yx).alloc (Nat.le_refl _) (Obj.cells #[.slice ra P.rows.length rc, .slice ea P.rel.length ec, .slice ba P.b.length bc, .slice ca P.c.length cc] 32)
  have bL := chain2 bL bA
  have HRB := hid (box_new Yx (Obj.cells #[.slice ra P.rows.length rc, .slice ea P.rel.length ec, .slice ba P.b.length bc, .slice ca P.c.length cc] 32))
  have HP := hid (HP.out.below bL)
  have HS := hid (HS.out.below bL)
  have HD := hid (HD.out.below bL)
  have HU := hid (HU.out.below bL)
  have HMX := hid (HMX.out.below bL)
  have HTB := hid (HTB.out.below bL)
  have HRL := hid (HRL.out.below bL)
  have HPB := hid (box_below bL HPB.out (lt_of_block HPB.out))
  have HB := hid (chain2 HB.out bL)
  have yW0 := bxc HPB.out 0 (.slice ra P.rows.length rc) rfl
  have yW1 := bxc HPB.out 1 (.slice ea P.rel.length ec) rfl
  have yW2 := bxc HPB.out 2 (.slice ba P.b.length bc) rfl
  have yW3 := bxc HPB.out 3 (.slice ca P.c.length cc) rfl
  have rW0 := bxc HRB.out 0 (.slice ra P.rows.length rc) rfl
  have rW1 := bxc HRB.out 1 (.slice ea P.rel.length ec) rfl
  have rW2 := bxc HRB.out 2 (.slice ba P.b.length bc) rfl
  have rW3 := bxc HRB.out 3 (.slice ca P.c.length cc) rfl
  clear bA bL
  go_wp2_with (refine wpList_store_fresh rfl 32 _ _ rfl _ _ _ rfl (by simp) rfl 4 info_refPrb (by rfl) (by rfl) (by simp [Value.oneCell']) ?_)
  generalize Yx.alloc (Obj.cells #[.slice ra P.rows.length rc, .slice ea P.rel.length ec, .slice ba P.b.length bc, .slice ca P.c.length cc] 32) = W at *
  generalize Yx.heap.size = rb at *
  have bL : Below W.heap.size W W := Below.refl _ _
  obtain ⟨cp, HCP⟩ : ∃ cp, Hid (chk P = cp) := ⟨_, hid rfl⟩
  have HCK : Hid (∀ Y, Below W.heap.size W Y → Calls Tryz.prog 9 #[.agg #[.slice ra P.rows.length rc, .slice ea P.rel.length ec, .slice ba P.b.length bc, .slice ca P.c.length cc]] Y (fun e w' => e = .returned (.int .i64 cp) ∧ Below Y.heap.size Y w')) := hid (fun Y bY => by rw [← HCP.out]; exact cCheck_any Y _ _ _ _ P (HP.out.below bY))
  have HHC : Hid (∀ Y, Below W.heap.size W Y → Calls Tryz.prog 10 #[.agg #[.slice ra P.rows.length rc, .slice ea P.rel.length ec, .slice ba P.b.length bc, .slice ca P.c.length cc]] Y (fun e w' => e = .returned (.int .i64 cp) ∧ Below Y.heap.size Y w')) := hid (fun Y bY => by rw [← HCP.out]; exact hCheck_any Y _ _ _ _ P (HP.out.below bY))
  obtain ⟨RF, HRF⟩ : ∃ RF : Bool, Hid (RF = true ↔ FeaS P S) := by obtain ⟨R, h⟩ := boolOf (FeaS P S); exact ⟨R, hid h⟩
  obtain ⟨RD, HRD⟩ : ∃ RD : Bool, Hid (RD = true ↔ DuaS P D) := by obtain ⟨R, h⟩ := boolOf (DuaS P D); exact ⟨R, hid h⟩
  obtain ⟨RO, HRO⟩ : ∃ RO : Bool, Hid (RO = true ↔ OptS P S D) := by obtain ⟨R, h⟩ := boolOf (OptS P S D); exact ⟨R, hid h⟩
  obtain ⟨RK, HRK⟩ : ∃ RK : Bool, Hid (RK = true ↔ FarS P D) := by obtain ⟨R, h⟩ := boolOf (FarS P D); exact ⟨R, hid h⟩
  obtain ⟨RR, HRR⟩ : ∃ RR : Bool, Hid (RR = true ↔ RayS P S U) := by obtain ⟨R, h⟩ := boolOf (RayS P S U); exact ⟨R, hid h⟩
  have HVA := hid (fun (Y : World) (bY : Below W.heap.size W Y) => cValue_any Y _ _ _ _ _ P S (HP.out.below bY) (HS.out.below bY) HSS.out (HMX.out.below bY) (HTB.out.below bY))
  have HHV := hid (fun (Y : World) (bY : Below W.heap.size W Y) => hValue_any Y _ _ _ _ _ P S (HP.out.below bY) (HS.out.below bY) HSS.out)
  have HBO := hid (fun (Y : World) (bY : Below W.heap.size W Y) => cBound_any Y _ _ _ _ _ P D (HP.out.below bY) (HD.out.below bY) HDS.out (HMX.out.below bY) (HTB.out.below bY))
  have HHB := hid (fun (Y : World) (bY : Below W.heap.size W Y) => hBound_any Y _ _ _ _ _ P D (HP.out.below bY) (HD.out.below bY) HDS.out)
  have HFE := hid (fun (Y : World) (bY : Below W.heap.size W Y) => cFeasible_any Y _ _ _ _ _ P S (HP.out.below bY) (HS.out.below bY) HSS.out (HMX.out.below bY) (HTB.out.below bY) (HRL.out.below bY) RF HRF.out)
  have HHF := hid (fun (Y : World) (bY : Below W.heap.size W Y) => hFeasible_any Y _ _ _ _ _ P S (HP.out.below bY) (HS.out.below bY) HSS.out RF HRF.out)
  have HDU := hid (fun (Y : World) (bY : Below W.heap.size W Y) => cDual_any Y _ _ _ _ _ P D (HP.out.below bY) (HD.out.below bY) HDS.out (HMX.out.below bY) (HTB.out.below bY) (HRL.out.below bY) RD HRD.out)
  have HHD := hid (fun (Y : World) (bY : Below W.heap.size W Y) => hDual_any Y _ _ _ _ _ P D (HP.out.below bY) (HD.out.below bY) HDS.out RD HRD.out)
  have HOP := hid (fun (Y : World) (bY : Below W.heap.size W Y) => cOptimal_any Y _ _ _ _ _ _ P S D (HP.out.below bY) (HS.out.below bY) HSS.out (HMX.out.below bY) (HTB.out.below bY) (HD.out.below bY) HDS.out (HRL.out.below bY) RO HRO.out)
  have HHO := hid (fun (Y : World) (bY : Below W.heap.size W Y) => hOptimal_any Y _ _ _ _ _ _ P S D (HP.out.below bY) (HS.out.below bY) HSS.out (HD.out.below bY) HDS.out RO HRO.out)
  have HFA := hid (fun (Y : World) (bY : Below W.heap.size W Y) => cFarkas_any Y _ _ _ _ _ P D (HP.out.below bY) (HD.out.below bY) HDS.out (HMX.out.below bY) (HTB.out.below bY) (HRL.out.below bY) RK HRK.out)
  have HHK := hid (fun (Y : World) (bY : Below W.heap.size W Y) => hFarkas_any Y _ _ _ _ _ P D (HP.out.below bY) (HD.out.below bY) HDS.out RK HRK.out)
  have HRA := hid (fun (Y : World) (bY : Below W.heap.size W Y) => cRay_any Y _ _ _ _ _ _ P S U (HP.out.below bY) (HS.out.below bY) HSS.out (HMX.out.below bY) (HTB.out.below bY) (HU.out.below bY) HUS.out (HRL.out.below bY) RR HRR.out)
  have HHR := hid (fun (Y : World) (bY : Below W.heap.size W Y) => hRay_any Y _ _ _ _ _ _ P S U (HP.out.below bY) (HS.out.below bY) HSS.out (HU.out.below bY) HUS.out RR HRR.out)
  have pbL := box_below bL HPB.out (lt_of_block HPB.out)
  have yL0 := bxc pbL 0 (.slice ra P.rows.length rc) rfl
  have yL1 := bxc pbL 1 (.slice ea P.rel.length ec) rfl
  have yL2 := bxc pbL 2 (.slice ba P.b.length bc) rfl
  have yL3 := bxc pbL 3 (.slice ca P.c.length cc) rfl
  clear pbL
  have pbR := box_below bL HRB.out (lt_of_block HRB.out)
  have rL0 := bxc pbR 0 (.slice ra P.rows.length rc) rfl
  have rL1 := bxc pbR 1 (.slice ea P.rel.length ec) rfl
  have rL2 := bxc pbR 2 (.slice ba P.b.length bc) rfl
  have rL3 := bxc pbR 3 (.slice ca P.c.length cc) rfl
  clear pbR
  refine (HVA.out _ (by first | exact bL | exact bL.drew | exact below_dn bL _)).mono ?_
  rintro e Yx ⟨⟨tx1, er1, rfl, hw1⟩, b⟩
  have bL : Below W.heap.size W Yx := (by first | exact chain2 bL b | exact chain2 bL ⟨b.os, b.tape, b.output, b.size, b.block⟩)
  have pbL := box_below bL HPB.out (lt_of_block HPB.out); have yL0 := bxc pbL 0 (.slice ra P.rows.length rc) rfl; have yL1 := bxc pbL 1 (.slice ea P.rel.length ec) rfl; have yL2 := bxc pbL 2 (.slice ba P.b.length bc) rfl; have yL3 := bxc pbL 3 (.slice ca P.c.length cc) rfl; clear pbL; have pbR := box_below bL HRB.out (lt_of_block HRB.out); have rL0 := bxc pbR 0 (.slice ra P.rows.length rc) rfl; have rL1 := bxc pbR 1 (.slice ea P.rel.length ec) rfl; have rL2 := bxc pbR 2 (.slice ba P.b.length bc) rfl; have rL3 := bxc pbR 3 (.slice ca P.c.length cc) rfl; clear pbR
  clear b
  go_wp2_with fail
  refine (HHV.out _ (by first | exact bL | exact bL.drew | exact below_dn bL _)).mono ?_
  rintro e Yx ⟨⟨tx2, er2, rfl, hw2⟩, b⟩; have bL : Below W.heap.size W Yx := (by first | exact chain2 bL b | exact chain2 bL ⟨b.os, b.tape, b.output, b.size, b.block⟩); have pbL := box_below bL HPB.out (lt_of_block HPB.out); have yL0 := bxc pbL 0 (.slice ra P.rows.length rc) rfl; have yL1 := bxc pbL 1 (.slice ea P.rel.length ec) rfl; have yL2 := bxc pbL 2 (.slice ba P.b.length bc) rfl; have yL3 := bxc pbL 3 (.slice ca P.c.length cc) rfl; clear pbL; have pbR := box_below bL HRB.out (lt_of_block HRB.out); have rL0 := bxc pbR 0 (.slice ra P.rows.length rc) rfl; have rL1 := bxc pbR 1 (.slice ea P.rel.length ec) rfl; have rL2 := bxc pbR 2 (.slice ba P.b.length bc) rfl; have rL3 := bxc pbR 3 (.slice ca P.c.length cc) rfl; clear pbR; clear b
  obtain ⟨rfl, rfl⟩ := hw1.uniq hw2
  clear hw1 hw2
  go_wp2_with fail
  refine (HBO.out _ (by first | exact bL | exact bL.drew | exact below_dn bL _)).mono ?_
  rintro e Yx ⟨⟨tx3, er3, rfl, hw1⟩, b⟩; have bL : Below W.heap.size W Yx := (by first | exact chain2 bL b | exact chain2 bL ⟨b.os, b.tape, b.output, b.size, b.block⟩); have pbL := box_below bL HPB.out (lt_of_block HPB.out); have yL0 := bxc pbL 0 (.slice ra P.rows.length rc) rfl; have yL1 := bxc pbL 1 (.slice ea P.rel.length ec) rfl; have yL2 := bxc pbL 2 (.slice ba P.b.length bc) rfl; have yL3 := bxc pbL 3 (.slice ca P.c.length cc) rfl; clear pbL; have pbR := box_below bL HRB.out (lt_of_block HRB.out); have rL0 := bxc pbR 0 (.slice ra P.rows.length rc) rfl; have rL1 := bxc pbR 1 (.slice ea P.rel.length ec) rfl; have rL2 := bxc pbR 2 (.slice ba P.b.length bc) rfl; have rL3 := bxc pbR 3 (.slice ca P.c.length cc) rfl; clear pbR; clear b
  go_wp2_with fail
  refine (HHB.out _ (by first | exact bL | exact bL.drew | exact below_dn bL _)).mono ?_
  rintro e Yx ⟨⟨tx4, er4, rfl, hw2⟩, b⟩; have bL : Below W.heap.size W Yx := (by first | exact chain2 bL b | exact chain2 bL ⟨b.os, b.tape, b.output, b.size, b.block⟩); have pbL := box_below bL HPB.out (lt_of_block HPB.out); have yL0 := bxc pbL 0 (.slice ra P.rows.length rc) rfl; have yL1 := bxc pbL 1 (.slice ea P.rel.length ec) rfl; have yL2 := bxc pbL 2 (.slice ba P.b.length bc) rfl; have yL3 := bxc pbL 3 (.slice ca P.c.length cc) rfl; clear pbL; have pbR := box_below bL HRB.out (lt_of_block HRB.out); have rL0 := bxc pbR 0 (.slice ra P.rows.length rc) rfl; have rL1 := bxc pbR 1 (.slice ea P.rel.length ec) rfl; have rL2 := bxc pbR 2 (.slice ba P.b.length bc) rfl; have rL3 := bxc pbR 3 (.slice ca P.c.length cc) rfl; clear pbR; clear b
  obtain ⟨rfl, rfl⟩ := hw1.uniq hw2
  clear hw1 hw2
  have F0 := bL.drew
  have HKx := hid (fun (Y : World) (k : Below W.heap.size W Y) => show (Y.cell? ⟨w.heap.size, 0, none⟩ = some (.slice ra P.rows.length rc) ∧ Y.cell? ⟨w.heap.size, 1, none⟩ = some (.slice ea P.rel.length ec) ∧ Y.cell? ⟨w.heap.size, 2, none⟩ = some (.slice ba P.b.length bc) ∧ Y.cell? ⟨w.heap.size, 3, none⟩ = some (.slice ca P.c.length cc) ∧ Y.cell? ⟨rb, 0, none⟩ = some (.slice ra P.rows.length rc) ∧ Y.cell? ⟨rb, 1, none⟩ = some (.slice ea P.rel.length ec) ∧ Y.cell? ⟨rb, 2, none⟩ = some (.slice ba P.b.length bc) ∧ Y.cell? ⟨rb, 3, none⟩ = some (.slice ca P.c.length cc)) from ⟨kc' k yW0, kc' k yW1, kc' k yW2, kc' k yW3, kc' k rW0, kc' k rW1, kc' k rW2, kc' k rW3⟩)
  go_wp2_with fail
  go_region_held3 (fun Z => Z.cell? ⟨w.heap.size, 0, none⟩ = some (.slice ra P.rows.length rc) ∧ Z.cell? ⟨w.heap.size, 1, none⟩ = some (.slice ea P.rel.length ec) ∧ Z.cell? ⟨w.heap.size, 2, none⟩ = some (.slice ba P.b.length bc) ∧ Z.cell? ⟨w.heap.size, 3, none⟩ = some (.slice ca P.c.length cc) ∧ Z.cell? ⟨rb, 0, none⟩ = some (.slice ra P.rows.length rc) ∧ Z.cell? ⟨rb, 1, none⟩ = some (.slice ea P.rel.length ec) ∧ Z.cell? ⟨rb, 2, none⟩ = some (.slice ba P.b.length bc) ∧ Z.cell? ⟨rb, 3, none⟩ = some (.slice ca P.c.length cc)) (first | exact HKx.out _ F2 | exact HKx.out _ F1 | exact HKx.out _ F0) (first
    | (go_at_call 10; have gk := F1; refine (HHC.out _ F1).mono ?_; rintro e Yx ⟨rfl, bb⟩; have F2 := chain2 F1 bb)
    | (go_at_call 9; have gk := F0; refine (HCK.out _ F0).mono ?_; rintro e Yx ⟨rfl, bb⟩; have F1 := chain2 F0 bb))
  have bL := F2
  clear HKx F0 F1 F2
  have e1 := bool_self RF
  have e2 := bool_self RD
  have e3 := bool_self RO
  have e4 := bool_self RK
  have e5 := bool_self RR
  have pbL := box_below bL HPB.out (lt_of_block HPB.out); have yL0 := bxc pbL 0 (.slice ra P.rows.length rc) rfl; have yL1 := bxc pbL 1 (.slice ea P.rel.length ec) rfl; have yL2 := bxc pbL 2 (.slice ba P.b.length bc) rfl; have yL3 := bxc pbL 3 (.slice ca P.c.length cc) rfl; clear pbL; have pbR := box_below bL HRB.out (lt_of_block HRB.out); have rL0 := bxc pbR 0 (.slice ra P.rows.length rc) rfl; have rL1 := bxc pbR 1 (.slice ea P.rel.length ec) rfl; have rL2 := bxc pbR 2 (.slice ba P.b.length bc) rfl; have rL3 := bxc pbR 3 (.slice ca P.c.length cc) rfl; clear pbR
  have F0 := bL.drew
  have HKx := hid (fun (Y : World) (k : Below W.heap.size W Y) => show (Y.cell? ⟨w.heap.size, 0, none⟩ = some (.slice ra P.rows.length rc) ∧ Y.cell? ⟨w.heap.size, 1, none⟩ = some (.slice ea P.rel.length ec) ∧ Y.cell? ⟨w.heap.size, 2, none⟩ = some (.slice ba P.b.length bc) ∧ Y.cell? ⟨w.heap.size, 3, none⟩ = some (.slice ca P.c.length cc) ∧ Y.cell? ⟨rb, 0, none⟩ = some (.slice ra P.rows.length rc) ∧ Y.cell? ⟨rb, 1, none⟩ = some (.slice ea P.rel.length ec) ∧ Y.cell? ⟨rb, 2, none⟩ = some (.slice ba P.b.length bc) ∧ Y.cell? ⟨rb, 3, none⟩ = some (.slice ca P.c.length cc)) from ⟨kc' k yW0, kc' k yW1, kc' k yW2, kc' k yW3, kc' k rW0, kc' k rW1, kc' k rW2, kc' k rW3⟩)
  go_wp2_with fail
  go_region_held3 (fun Z => Z.cell? ⟨w.heap.size, 0, none⟩ = some (.slice ra P.rows.length rc) ∧ Z.cell? ⟨w.heap.size, 1, none⟩ = some (.slice ea P.rel.length ec) ∧ Z.cell? ⟨w.heap.size, 2, none⟩ = some (.slice ba P.b.length bc) ∧ Z.cell? ⟨w.heap.size, 3, none⟩ = some (.slice ca P.c.length cc) ∧ Z.cell? ⟨rb, 0, none⟩ = some (.slice ra P.rows.length rc) ∧ Z.cell? ⟨rb, 1, none⟩ = some (.slice ea P.rel.length ec) ∧ Z.cell? ⟨rb, 2, none⟩ = some (.slice ba P.b.length bc) ∧ Z.cell? ⟨rb, 3, none⟩ = some (.slice ca P.c.length cc)) (first | exact HKx.out _ F10 | exact HKx.out _ F9 | exact HKx.out _ F8 | exact HKx.out _ F7 | exact HKx.out _ F6 | exact HKx.out _ F5 | exact HKx.out _ F4 | exact HKx.out _ F3 | exact HKx.out _ F2 | exact HKx.out _ F1 | exact HKx.out _ F0) (first
    | (go_at_call 29; have gk := F9; refine (HHR.out _ F9).mono ?_; rintro e Yx ⟨rfl, bb⟩; have F10 := chain2 F9 bb)
    | (go_at_call 28; have gk := F8; refine (HRA.out _ F8).mono ?_; rintro e Yx ⟨rfl, bb⟩; have F9 := chain2 F8 bb)
    | (go_at_call 27; have gk := F7; refine (HHK.out _ F7).mono ?_; rintro e Yx ⟨rfl, bb⟩; have F8 := chain2 F7 bb)
    | (go_at_call 14; have gk := F6; refine (HFA.out _ F6).mono ?_; rintro e Yx ⟨rfl, bb⟩; have F7 := chain2 F6 bb)
    | (go_at_call 26; have gk := F5; refine (HHO.out _ F5).mono ?_; rintro e Yx ⟨rfl, bb⟩; have F6 := chain2 F5 bb)
    | (go_at_call 25; have gk := F4; refine (HOP.out _ F4).mono ?_; rintro e Yx ⟨rfl, bb⟩; have F5 := chain2 F4 bb)
    | (go_at_call 18; have gk := F3; refine (HHD.out _ F3).mono ?_; rintro e Yx ⟨rfl, bb⟩; have F4 := chain2 F3 bb)
    | (go_at_call 13; have gk := F2; refine (HDU.out _ F2).mono ?_; rintro e Yx ⟨rfl, bb⟩; have F3 := chain2 F2 bb)
    | (go_at_call 24; have gk := F1; refine (HHF.out _ F1).mono ?_; rintro e Yx ⟨rfl, bb⟩; have F2 := chain2 F1 bb)
    | (go_at_call 23; have gk := F0; refine (HFE.out _ F0).mono ?_; rintro e Yx ⟨rfl, bb⟩; have F1 := chain2 F0 bb))
  have bL := F10
  clear HKx F0 F1 F2 F3 F4 F5 F6 F7 F8 F9 F10
  have BF := chain2 HB.out bL
  go_wp2
  go_ret
  exact ⟨by first | rfl | simp, by first | exact BF | exact BF.drew | exact below_dn BF _⟩
end Go.Proofs.YtbdhanlenekdhaaGreatDoor
