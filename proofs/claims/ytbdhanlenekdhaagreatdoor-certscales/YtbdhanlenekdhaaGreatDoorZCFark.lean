/- cert: Farkas. -/
import Derived.Test.YtbdhanlenekdhaaGreatDoorPk40
import Derived.Deep.RegionHeld3
namespace Go.Proofs.YtbdhanlenekdhaaGreatDoor
open Go.RowKit
set_option linter.unusedVariables false
set_option maxRecDepth 100000
set_option linter.unusedSimpArgs false

theorem in9_rep' (n : Nat) : In9 (List.replicate n 0) := fun a ha => by
  rw [List.mem_replicate] at ha
  omega
theorem cmp_lt_iff (p : Rat) : decide (cmpR p ((0 : Int) : Rat) < 0) = true ↔ p < 0 := by
  have e : ((0 : Int) : Rat) = 0 := rfl
  constructor
  · intro h; rw [← e]; exact cmp_lt h
  · intro h
    cases hb : decide (cmpR p ((0 : Int) : Rat) < 0) with
    | true => rfl
    | false => exact absurd (cmp_ge hb) (by rw [e]; exact Rat.not_le.2 h)
theorem cmp_gt_iff (p : Rat) : decide (0 < cmpR p ((0 : Int) : Rat)) = true ↔ 0 < p := by
  have e : ((0 : Int) : Rat) = 0 := rfl
  rcases cmp_cases p ((0 : Int) : Rat) with ⟨h1, h2, _⟩ | ⟨h1, h2, _⟩ | ⟨h1, h2, _⟩
  · rw [h2]; rw [e] at h1; simp; grind
  · rw [h2]; rw [e] at h1; simp; grind
  · rw [h2]; rw [e] at h1; simp; exact h1
set_option maxHeartbeats 12800000 in
theorem cFarkas_any (w : World) (rv ev bv cv sv : Value) (P : Prb) (S : List ByteArray) (hp : IsPrb w rv ev bv cv P) (hs : Strs w sv S) (hsz : chk P = 0 → ∀ s ∈ S, s.size ≤ 600) (hmx : Mx w) (htab : Tab w) (hrl : Rl w) (R : Bool) (hR : R = true ↔ FarS P S) :
    Calls Tryz.prog 14 #[.agg #[rv, ev, bv, cv], sv] w fun e w' => e = .returned (.bool R) ∧ Below w.heap.size w w' := by
  obtain ⟨ra, rc, rfl, rl, rm⟩ := hp.rows.slice
  obtain ⟨ea, ec, rfl, el, em⟩ := hp.rel.slice
  obtain ⟨ba, bc, rfl, bl, bm⟩ := hp.b.slice
  obtain ⟨ca, cc, rfl, cl, cm⟩ := hp.c.slice
  obtain ⟨sa, sc, rfl, sl, sm⟩ := hs.slice
  unfold maxLen at rm em bm cm sm
  have b0 := (Below.refl w.heap.size w).alloc (Nat.le_refl _) (Obj.cells #[.slice ra P.rows.length rc, .slice ea P.rel.length ec, .slice ba P.b.length bc, .slice ca P.c.length cc] 25)
  have x0 := box_new w (Obj.cells #[.slice ra P.rows.length rc, .slice ea P.rel.length ec, .slice ba P.b.length bc, .slice ca P.c.length cc] 25)
  have y0 := bxc x0 0 (.slice ra P.rows.length rc) rfl
  have y1 := bxc x0 1 (.slice ea P.rel.length ec) rfl
  have y2 := bxc x0 2 (.slice ba P.b.length bc) rfl
  have y3 := bxc x0 3 (.slice ca P.c.length cc) rfl
  have HPB := hid x0
  have HP := hid (hp.below b0)
  have HS := hid (hs.below b0)
  have HMX := hid (hmx.below b0)
  have HTB := hid (htab.below b0)
  have HB0 := hid b0
  have HSZ := hid hsz
  have HRL := hid (hrl.below b0)
  have HRR := hid hR
  clear hp hs hmx htab b0 x0 hsz hrl hR
  go_enter Tryz.func14, Tryz.ntmps14
  go_wp2_with fail
  generalize w.alloc (Obj.cells #[.slice ra P.rows.length rc, .slice ea P.rel.length ec, .slice ba P.b.length bc, .slice ca P.c.length cc] 25) = W at *
  refine (read_any W _ _ _ _ _ P S P.b.length HP.out HS.out HSZ.out (fun hh => by have := (chk_ok hh).b; have := (chk_ok hh).rl; have := (chk_ok hh).cl; omega) (by omega) HMX.out HTB.out).mono ?_
  rintro e X1 ⟨hr, bX1⟩
  clear y0 y1 y2 y3
  rcases hr with ⟨hck, hln, X, tv, p1, p2, p3, p4, p5, p6, p7, p8, hnu, rfl, hli⟩ | ⟨hno, rfl⟩
  · have bA := (Below.refl X1.heap.size X1).alloc (Nat.le_refl _) (Obj.cells #[tv, .slice p1 p2 p3, .bool p4, .slice p5 p6 p7, .bool p8] 71)
    have HLB := hid (box_new X1 (Obj.cells #[tv, .slice p1 p2 p3, .bool p4, .slice p5 p6 p7, .bool p8] 71))
    have HPK := hid (box_below (chain2 bX1 bA) HPB.out (lt_of_block HPB.out))
    have BA := chain2 HB0.out (chain2 bX1 bA)
    have ok := chk_ok hck
    obtain ⟨R1, hR1⟩ := boolOf (sgs P.rel X ∧ cvs P.rows X (List.replicate P.c.length 0))
    have hRd : R = true ↔ R1 = true ∧ decide (cmpR (dot P.b X) ((0 : Int) : Rat) < 0) = true := by
      rw [cmp_lt_iff, hR1]
      exact HRR.out.trans ⟨fun ⟨h1, h2, Y, h3, h4⟩ => by rw [hnu.uniq h3]; exact h4, fun h4 => ⟨hck, hln, X, hnu, h4⟩⟩
    have HP2 := hid (HP.out.below (chain2 bX1 bA))
    have HRL2 := hid (HRL.out.below (chain2 bX1 bA))
    have HL2 := hid (hli.below bA)
    obtain ⟨ta, tc, _, _, _, _, _, _, _, _, rfl, -⟩ := hli.form
    have HXL := hid (show X.length = P.b.length by rw [hnu.len, hln])
    have HOK := hid ok
    have HRD := hid hRd
    have HR1 := hid hR1
    clear hli bA hnu hck hln bX1 ok hRd hR1 HP HS HMX HTB HRR HRL HB0 HPB
    go_wp2_with (refine wpList_store_fresh rfl 71 _ _ rfl _ _ _ rfl (by simp) rfl 5 info_clist (by rfl) (by rfl) (by simp [Value.oneCell']) ?_)
    generalize X1.alloc (Obj.cells #[.slice ta X.length tc, .slice p1 p2 p3, .bool p4, .slice p5 p6 p7, .bool p8] 71) = W2 at *
    generalize X1.heap.size = lb at *
    have HNOU := hid (fun (Y : World) (bY : Below W2.heap.size W2 Y) => noughts_any Y _ P.c (HP2.out.c.below bY) (by have := HOK.out.cl; omega))
    have HCOV := hid (fun (Y : World) (bY : Below W2.heap.size W2 Y) (u : Value) (hu : Ints Y u (List.replicate P.c.length 0)) => covers_any Y _ _ _ _ _ _ _ _ _ X P u (List.replicate P.c.length 0) (HL2.out.below bY) (HP2.out.below bY) hu (HRL2.out.below bY) (by rw [HXL.out, HOK.out.b]) HOK.out.rel (by rw [List.length_replicate]; exact HOK.out.c) HOK.out.r9 (in9_rep' _) (by rw [List.length_replicate]; exact HOK.out.cl) R1 HR1.out)
    have HCMP := hid (fun (Y : World) (bY : Below W2.heap.size W2 Y) => compare_any Y _ _ _ _ _ X _ P.b 0 (HL2.out.below bY) (HP2.out.b.below bY) HOK.out.b9 (by rw [HXL.out]; exact Nat.le_refl _) (by omega))
    generalize cmpR (dot P.b X) ((0 : Int) : Rat) = cr at *
    have bR : Below W2.heap.size W2 W2 := Below.refl _ _
    have lb0 := box_below bR HLB.out (lt_of_block HLB.out); have zl00 := bxc lb0 0 (.slice ta X.length tc) rfl; have zl01 := bxc lb0 1 (.slice p1 p2 p3) rfl; have zl02 := bxc lb0 2 (.bool p4) rfl; have zl03 := bxc lb0 3 (.slice p5 p6 p7) rfl; have zl04 := bxc lb0 4 (.bool p8) rfl; have pb0 := box_below bR HPK.out (lt_of_block HPK.out); have yl00 := bxc pb0 0 (.slice ra P.rows.length rc) rfl; have yl01 := bxc pb0 1 (.slice ea P.rel.length ec) rfl; have yl02 := bxc pb0 2 (.slice ba P.b.length bc) rfl; have yl03 := bxc pb0 3 (.slice ca P.c.length cc) rfl; clear lb0 pb0
    cases R1 with
    | false =>
      have HF := hid (show R = false from bool_no HRD.out (fun ⟨h, _⟩ => by cases h))
      clear HCMP HRD HL2 HRL2 HXL HOK HR1
      first
      | (go_region_with (first
          | (have gk := hu1; go_at_call 38; refine (HCOV.out _ (by first | exact bN' | exact bN'.drew | exact below_dn bN' _) _ (by first | exact hu1 | exact hu1.below (Below.refl _ _).drew | exact hu1.below (below_dn (Below.refl _ _) _))).mono ?_; rintro e Y2 ⟨rfl, b2⟩; have bC' : Below W2.heap.size W2 Y2 := (by first | exact ⟨b2.os, b2.tape, b2.output, b2.size, b2.block⟩ | exact chain2 bN' b2 | exact chain2 bN' ⟨b2.os, b2.tape, b2.output, b2.size, b2.block⟩); clear b2)
          | (go_at_call 39; refine (HNOU.out _ (by first | exact Below.refl _ _ | exact (Below.refl _ _).drew | exact below_dn (Below.refl _ _) _)).mono ?_; rintro e Y1 ⟨⟨u1, rfl, hu1⟩, b1⟩; have bN' : Below W2.heap.size W2 Y1 := (by first | exact ⟨b1.os, b1.tape, b1.output, b1.size, b1.block⟩); have lbn := box_below bN' HLB.out (lt_of_block HLB.out); have zln0 := bxc lbn 0 (.slice ta X.length tc) rfl; have zln1 := bxc lbn 1 (.slice p1 p2 p3) rfl; have zln2 := bxc lbn 2 (.bool p4) rfl; have zln3 := bxc lbn 3 (.slice p5 p6 p7) rfl; have zln4 := bxc lbn 4 (.bool p8) rfl; have pbn := box_below bN' HPK.out (lt_of_block HPK.out); have yln0 := bxc pbn 0 (.slice ra P.rows.length rc) rfl; have yln1 := bxc pbn 1 (.slice ea P.rel.length ec) rfl; have yln2 := bxc pbn 2 (.slice ba P.b.length bc) rfl; have yln3 := bxc pbn 3 (.slice ca P.c.length cc) rfl; clear lbn pbn; clear b1)))
      | fail
      all_goals
        have BF := chain2 BA bC'
        (try simp only [List.getElem_toArray, List.getElem_cons_zero, List.getElem_cons_succ, Act.put, List.setIfInBounds_toArray, List.set_cons_succ, List.set_cons_zero])
        go_wp2
        go_ret
        exact ⟨by rw [HF.out]; rfl, by first | exact BF | exact BF.drew | exact below_dn BF _⟩
    | true =>
      have HF := hid (show R = decide (cr < 0) by
        cases hb : decide (cr < 0) with
        | true => exact HRD.out.2 ⟨rfl, hb⟩
        | false => exact bool_no HRD.out (fun ⟨_, h⟩ => by rw [hb] at h; cases h))
      have F0 : Below W2.heap.size W2 W2.drew := below_drew1 W2
      have HKx := hid (fun (Y : World) (k : Below W2.heap.size W2 Y) => show (Y.cell? ⟨lb, 0, none⟩ = some (.slice ta X.length tc) ∧ Y.cell? ⟨lb, 1, none⟩ = some (.slice p1 p2 p3) ∧ Y.cell? ⟨lb, 2, none⟩ = some (.bool p4) ∧ Y.cell? ⟨lb, 3, none⟩ = some (.slice p5 p6 p7) ∧ Y.cell? ⟨lb, 4, none⟩ = some (.bool p8) ∧ Y.cell? ⟨w.heap.size, 0, none⟩ = some (.slice ra P.rows.length rc) ∧ Y.cell? ⟨w.heap.size, 1, none⟩ = some (.slice ea P.rel.length ec) ∧ Y.cell? ⟨w.heap.size, 2, none⟩ = some (.slice ba P.b.length bc) ∧ Y.cell? ⟨w.heap.size, 3, none⟩ = some (.slice ca P.c.length cc)) from ⟨kc' k zl00, kc' k zl01, kc' k zl02, kc' k zl03, kc' k zl04, kc' k yl00, kc' k yl01, kc' k yl02, kc' k yl03⟩)
      first
      | (go_region_held3 (fun Z => Z.cell? ⟨lb, 0, none⟩ = some (.slice ta X.length tc) ∧ Z.cell? ⟨lb, 1, none⟩ = some (.slice p1 p2 p3) ∧ Z.cell? ⟨lb, 2, none⟩ = some (.bool p4) ∧ Z.cell? ⟨lb, 3, none⟩ = some (.slice p5 p6 p7) ∧ Z.cell? ⟨lb, 4, none⟩ = some (.bool p8) ∧ Z.cell? ⟨w.heap.size, 0, none⟩ = some (.slice ra P.rows.length rc) ∧ Z.cell? ⟨w.heap.size, 1, none⟩ = some (.slice ea P.rel.length ec) ∧ Z.cell? ⟨w.heap.size, 2, none⟩ = some (.slice ba P.b.length bc) ∧ Z.cell? ⟨w.heap.size, 3, none⟩ = some (.slice ca P.c.length cc)) (first | exact HKx.out _ F3 | exact HKx.out _ F2 | exact HKx.out _ F1 | exact HKx.out _ F0) (first
          | (go_at_call 40; have gk := F2; refine (HCMP.out _ F2).mono ?_; rintro e Y3 ⟨rfl, bb⟩; have F3 := chain2 F2 bb)
          | (go_at_call 38; have gk := F1; refine (HCOV.out _ F1 _ hu1).mono ?_; rintro e Y2 ⟨rfl, bb⟩; have F2 := chain2 F1 bb)
          | (go_at_call 39; have gk := F0; refine (HNOU.out _ F0).mono ?_; rintro e Y1 ⟨⟨u1, rfl, hu1⟩, bb⟩; have F1 := chain2 F0 bb)))
      | fail
      have BF := chain2 BA F3
      go_wp2
      go_ret
      exact ⟨by rw [HF.out]; first | rfl | simp, by first | exact BF | exact BF.drew | exact below_dn BF _⟩
  · have hne := rd_ne P S P.b.length
    have HF := hid (bool_no HRR.out (fun ⟨h1, h2, X, h3, _⟩ => hno ⟨h1, h2, X, h3⟩))
    generalize rdE P S P.b.length = er at *
    have hne1 : (er == 0) = false := beq_eq_false_iff_ne.2 hne
    have BA := chain2 HB0.out (chain2 bX1 ((Below.refl X1.heap.size X1).alloc (Nat.le_refl _) (Obj.cells #[.slice none 0 0, .slice none 0 0, .bool false, .slice none 0 0, .bool false] 71)))
    clear hno bX1
    go_wp2_with fail
    go_quiet (fail)
    go_wp2
    go_ret
    exact ⟨by rw [HF.out]; rfl, by first | exact BA | exact BA.drew | exact below_dn BA _⟩
end Go.Proofs.YtbdhanlenekdhaaGreatDoor
