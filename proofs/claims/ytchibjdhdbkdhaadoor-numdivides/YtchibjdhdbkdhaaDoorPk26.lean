/- SFloor, SZero, NDividesWalk. -/
import Derived.Test.YtchibjdhdbkdhaaDoorPk22
import Derived.Test.YtchibjdhdbkdhaaDoorQSText
import Derived.Test.YtchibjdhdbkdhaaDoorPk21
import Derived.Test.YtchibjdhdbkdhaaDoorPk18
import Derived.Test.YtchibjdhdbkdhaaDoorPk4
import Derived.Test.YtchibjdhdbkdhaaDoorQNText
/- The document's whole numbers: DivMod, the quotient rounded down. -/
namespace Go.Proofs.YtchibjdhdbkdhaaDoor
open Go.RowKit
set_option linter.unusedVariables false
set_option maxRecDepth 100000
set_option linter.unusedSimpArgs false
attribute [local go_sem ↓] Go.wp_at_zero Go.wp_at_succ

theorem sign_same {x y : Int} (h : x.tmod y ≠ 0) (hy : y ≠ 0) : signZ (x.tmod y) = signZ y ↔ decide (x < 0) = decide (y < 0) := by
  have hs : 0 ≤ x → 0 ≤ x.tmod y := fun h => Int.tmod_nonneg y h
  have hs' : x < 0 → x.tmod y ≤ 0 := fun h => by
    have := Int.tmod_nonneg (a := -x) y (by omega)
    rw [Int.neg_tmod] at this; omega
  generalize x.tmod y = r at *
  unfold signZ
  by_cases hx : x < 0
  · have := hs' hx
    by_cases hy0 : y < 0
    · simp [hx, hy0, show r < 0 by omega]
    · simp [hx, hy0, show r < 0 by omega, show 0 < y by omega]
  · have := hs (by omega)
    by_cases hy0 : y < 0
    · simp [hx, hy0, show ¬ r < 0 by omega, show 0 < r by omega]
    · simp [hx, hy0, show ¬ r < 0 by omega, show 0 < r by omega, show 0 < y by omega]
set_option maxHeartbeats 4000000 in
theorem sdm_any (w : World) (a b : Value) (x y : Int) (K : Nat) (hK : K ≤ 100000000) (ha : RNumIs w a x K) (hb : RNumIs w b y K) (h0 : y ≠ 0) :
    Calls Tryd.prog 23 #[a, b] w fun e w' => (∃ q r, e = .returned (.tuple #[q, r, .int .i64 0]) ∧ RNumIs w' q (x.fdiv y) (K + 4) ∧ RNumIs w' r (x.fmod y) (K + 1)) ∧ Below w.heap.size w w' := by
  obtain ⟨aa, la, ca, rfl, na0⟩ := ha
  obtain ⟨ab, lb, cb, rfl, nb0⟩ := hb
  have Na : RNumIs w (.agg #[.bool (decide (x < 0)), .slice aa la ca]) x K := ⟨aa, la, ca, rfl, na0⟩
  have Nb : RNumIs w (.agg #[.bool (decide (y < 0)), .slice ab lb cb]) y K := ⟨ab, lb, cb, rfl, nb0⟩
  have F1 := hid (fdiv_same (x := x) h0)
  have F2 := hid (fdiv_less (x := x) h0)
  have F3 := hid (fun h => sign_same (x := x) h h0)
  generalize hbx : decide (x < 0) = b at *
  generalize hby : decide (y < 0) = b' at *
  have HBX := hid (And.intro hbx hby)
  clear hbx hby
  obtain ⟨hB, hx, hz, hy, hy', s4⟩ := boxed4 w (Obj.cells #[.bool b, .slice aa la ca] 31) (Obj.cells #[.bool b', .slice ab lb cb] 31) (Obj.cells #[.bool false, .slice none 0 0] 31) (Obj.cells #[.bool false, .slice none 0 0] 31)
  go_enter Tryd.func23, Tryd.ntmps23
  go_wp2_with fail
  generalize (((w.alloc (Obj.cells #[.bool b, .slice aa la ca] 31)).alloc (Obj.cells #[.bool b', .slice ab lb cb] 31)).alloc (Obj.cells #[.bool false, .slice none 0 0] 31)).alloc (Obj.cells #[.bool false, .slice none 0 0] 31) = W at *
  refine (squo_any W _ _ x y K hK (Na.below hB) (Nb.below hB) h0).mono ?_
  rintro e w1 ⟨⟨q, r, rfl, nq, nr⟩, hb1⟩
  have Nq := nq
  have Nr := nr
  obtain ⟨p1, l1, c1, rfl, m1⟩ := nq
  obtain ⟨p2, l2, c2, rfl, m2⟩ := nr
  have hbx := hb1.size
  obtain ⟨d1, hd1⟩ : ∃ d1, decide (x.tdiv y < 0) = d1 := ⟨_, rfl⟩
  obtain ⟨d2, hd2⟩ : ∃ d2, decide (x.tmod y < 0) = d2 := ⟨_, rfl⟩
  rw [hd1, hd2]
  rw [hd1] at Nq
  rw [hd2] at Nr
  have X1 := boxed2 hb1 (Obj.cells #[.bool d1, .slice p1 l1 c1] 31) (Obj.cells #[.bool d2, .slice p2 l2 c2] 31)
  have Y1 := boxed2 (Below.refl w1.heap.size w1) (Obj.cells #[.bool d1, .slice p1 l1 c1] 31) (Obj.cells #[.bool d2, .slice p2 l2 c2] 31)
  have bq := boxed2_first w1 (Obj.cells #[.bool d1, .slice p1 l1 c1] 31) (Obj.cells #[.bool d2, .slice p2 l2 c2] 31)
  have br := boxed2_second w1 (Obj.cells #[.bool d1, .slice p1 l1 c1] 31) (Obj.cells #[.bool d2, .slice p2 l2 c2] 31)
  have hz1 := box_below X1 hz (by omega)
  have hy1 := box_below X1 hy (by omega)
  have hy1' := box_below X1 hy' (by omega)
  have C1 := chain2 hB X1
  have Nq1 := Nq.below Y1
  have Nr1 := Nr.below Y1
  have Nb1 := Nb.below C1
  have m1 := m1.below Y1
  have m2 := m2.below Y1
  have HD := hid (And.intro hd1 hd2)
  have HY := hid (And.intro hz1 (And.intro hy1 (And.intro hy1' (And.intro bq br))))
  have hw1 : w.heap.size + 1 + 1 + 1 + 1 ≤ w1.heap.size := by omega
  clear hd1 hd2 hx hz hy hy' hz1 hy1 hy1' bq br X1 Y1 hb1 hB Nq Nr na0 nb0 Na Nb s4
  go_wp2_with fail
  generalize (w1.alloc (Obj.cells #[.bool d1, .slice p1 l1 c1] 31)).alloc (Obj.cells #[.bool d2, .slice p2 l2 c2] 31) = XX at *
  have f0 := two_cell0 HY.out.2.2.2.2
  have f1 := two_cell1 HY.out.2.2.2.2
  have f2 := two_cell0 HY.out.1
  have f3 := two_cell1 HY.out.1
  have B0 : Below XX.heap.size XX XX.drew := (Below.refl _ _).drew
  by_cases hr0 : x.tmod y = 0
  · have HE := hid (F1.out (Or.inr hr0))
    have HS := hid (show signZ (x.tmod y) = 0 by rw [hr0]; rfl)
    clear hr0
    go_region_with (first
      | (go_at_call 13; refine (ssign_any _ _ _ K (by omega) (Nr1.below B0)).mono ?_; rintro e w2 ⟨rfl, hb2⟩; have DD := chain2 B0 hb2; rw [HS.out]))
    all_goals
      simp only [List.getElem_toArray, List.getElem_cons_zero, List.getElem_cons_succ, Act.put, List.setIfInBounds_toArray, List.set_cons_succ, List.set_cons_zero]
      have z2 := box_below DD HY.out.1 (lt_of_block HY.out.1)
      have z3 := box_below DD HY.out.2.1 (lt_of_block HY.out.2.1)
      have z4 := box_below DD HY.out.2.2.1 (lt_of_block HY.out.2.2.1)
      have z5 := box_below DD HY.out.2.2.2.1 (lt_of_block HY.out.2.2.2.1)
      have z6 := box_below DD HY.out.2.2.2.2 (lt_of_block HY.out.2.2.2.2)
      have C2 := chain2 C1 DD
      have m1 := m1.below DD
      have m2 := m2.below DD
      clear f0 f1 f2 f3 Nq1 Nr1 Nb1 F1 F2 F3 HY hb2 B0 HS C1
      have f0 := two_cell0 z5
      have f1 := two_cell1 z5
      have f2 := two_cell0 z6
      have f3 := two_cell1 z6
      have g0 := two_cell0 z3
      have g1 := two_cell1 z3
      have g2 := two_free (k := 0) z3
      have g3 := two_free (k := 1) z3
      have g4 := two_cell0 z4
      have g5 := two_cell1 z4
      have g6 := two_free (k := 0) z4
      have g7 := two_free (k := 1) z4
      obtain ⟨o1, o2, o3, o4, o5, o6, o7⟩ := sdiv_out C2 (show w.heap.size ≤ w.heap.size + 1 + 1 by omega) (show w.heap.size ≤ w.heap.size + 1 + 1 + 1 by omega) (by omega) z3 z4 m1 m2 _ rfl (x1 := .bool d1) (x2 := .bool d2)
      have HO := hid (And.intro o1 (And.intro o2 o3))
      have HC := hid (And.intro o4 (And.intro o5 (And.intro o6 o7)))
      clear o1 o2 o3 o4 o5 o6 o7
      have ne1 : w1.heap.size ≠ w.heap.size + 1 + 1 := by omega
      have ne2 : w1.heap.size ≠ w.heap.size + 1 + 1 + 1 := by omega
      have ne3 : w1.heap.size + 1 ≠ w.heap.size + 1 + 1 := by omega
      have ne4 : w1.heap.size + 1 ≠ w.heap.size + 1 + 1 + 1 := by omega
      go_wp2
      go_region
      all_goals
        clear f0 f1 f2 f3 g0 g1 g2 g3 g4 g5 g6 g7
        generalize ((((w2.setCell ⟨w.heap.size + 1 + 1, 0, none⟩ (Value.bool d1)).setCell ⟨w.heap.size + 1 + 1, 1, none⟩ (Value.slice p1 l1 c1)).setCell ⟨w.heap.size + 1 + 1 + 1, 0, none⟩ (Value.bool d2)).setCell ⟨w.heap.size + 1 + 1 + 1, 1, none⟩ (Value.slice p2 l2 c2)) = Z at *
        have HC' : Hid (Z.drew.cell? ⟨w.heap.size + 1 + 1, 0, none⟩ = some (Value.bool d1) ∧ Z.drew.cell? ⟨w.heap.size + 1 + 1, 1, none⟩ = some (Value.slice p1 l1 c1) ∧ Z.drew.cell? ⟨w.heap.size + 1 + 1 + 1, 0, none⟩ = some (Value.bool d2) ∧ Z.drew.cell? ⟨w.heap.size + 1 + 1 + 1, 1, none⟩ = some (Value.slice p2 l2 c2)) := HC
        go_wp2
        refine bodyPost_ret (v := .tuple #[.agg #[.bool d1, .slice p1 l1 c1], .agg #[.bool d2, .slice p2 l2 c2], .int .i64 0]) (by simp [results, Tryd.results23, go_sem, HC'.out.1, HC'.out.2.1, HC'.out.2.2.1, HC'.out.2.2.2]) rfl ⟨⟨_, _, rfl, ⟨p1, l1, c1, by rw [HE.out.1, HD.out.1], by rw [HE.out.1]; exact (HO.out.1.below (Below.refl _ _).drew).mono (by omega)⟩, ⟨p2, l2, c2, by rw [HE.out.2, HD.out.2], by rw [HE.out.2]; exact (HO.out.2.1.below (Below.refl _ _).drew).mono (by omega)⟩⟩, HO.out.2.2.drew⟩
  · obtain ⟨S1, hs1⟩ : ∃ S1, signZ (x.tmod y) = S1 := ⟨_, rfl⟩
    obtain ⟨S2, hs2⟩ : ∃ S2, signZ y = S2 := ⟨_, rfl⟩
    have hS0 : S1 ≠ 0 := by rw [← hs1]; exact signZ_ne hr0
    have hS1 : (S1 == 0) = false := beq_eq_false_iff_ne.2 hS0
    have hS2 : (S1 != 0) = true := bne_iff_ne.2 hS0
    have F4 := hid (F3.out hr0)
    have HS1 := hid hs1
    have HS2 := hid hs2
    have HR0 := hid hr0
    clear hs1 hs2 hr0
    go_region_held3 (fun w' => w'.cell? ⟨w1.heap.size + 1, 0, none⟩ = some (.bool d2) ∧ w'.cell? ⟨w1.heap.size + 1, 1, none⟩ = some (.slice p2 l2 c2) ∧ w'.cell? ⟨w.heap.size + 1, 0, none⟩ = some (.bool b') ∧ w'.cell? ⟨w.heap.size + 1, 1, none⟩ = some (.slice ab lb cb)) ((refine keepN f0 f1 f2 f3 ?_; first | exact B0 | exact B1 | exact B2 | exact B3)) (first
      | (have gg := B2; go_at_call 13; refine (ssign_any _ _ _ K (by omega) (Nb1.below B2)).mono ?_; rintro e w4 ⟨rfl, hb4⟩; have B3 := chain2 B2 hb4; rw [HS2.out])
      | (have gg := B1; go_at_call 13; refine (ssign_any _ _ _ K (by omega) (Nr1.below B1)).mono ?_; rintro e w3 ⟨rfl, hb3⟩; have B2 := chain2 B1 hb3; rw [HS1.out])
      | (have gg := B0; go_at_call 13; refine (ssign_any _ _ _ K (by omega) (Nr1.below B0)).mono ?_; rintro e w2 ⟨rfl, hb2⟩; have B1 := chain2 B0 hb2; rw [HS1.out]))
    by_cases hss : S1 = S2
    · have HE := hid (F1.out (Or.inl (F4.out.1 (by rw [HS1.out, HS2.out]; exact hss))))
      have hne : (S1 != S2) = false := by rw [hss]; simp
      have z2 := box_below B3 HY.out.1 (lt_of_block HY.out.1)
      have z3 := box_below B3 HY.out.2.1 (lt_of_block HY.out.2.1)
      have z4 := box_below B3 HY.out.2.2.1 (lt_of_block HY.out.2.2.1)
      have z5 := box_below B3 HY.out.2.2.2.1 (lt_of_block HY.out.2.2.2.1)
      have z6 := box_below B3 HY.out.2.2.2.2 (lt_of_block HY.out.2.2.2.2)
      have C2 := chain2 C1 B3
      have m1 := m1.below B3
      have m2 := m2.below B3
      clear f0 f1 f2 f3 Nq1 Nr1 Nb1 F1 F2 F3 F4 HY hb2 hb3 hb4 B0 B1 B2 HS1 HS2 C1
      have f0 := two_cell0 z5
      have f1 := two_cell1 z5
      have f2 := two_cell0 z6
      have f3 := two_cell1 z6
      have g0 := two_cell0 z3
      have g1 := two_cell1 z3
      have g2 := two_free (k := 0) z3
      have g3 := two_free (k := 1) z3
      have g4 := two_cell0 z4
      have g5 := two_cell1 z4
      have g6 := two_free (k := 0) z4
      have g7 := two_free (k := 1) z4
      obtain ⟨o1, o2, o3, o4, o5, o6, o7⟩ := sdiv_out C2 (show w.heap.size ≤ w.heap.size + 1 + 1 by omega) (show w.heap.size ≤ w.heap.size + 1 + 1 + 1 by omega) (by omega) z3 z4 m1 m2 _ rfl (x1 := .bool d1) (x2 := .bool d2)
      have HO := hid (And.intro o1 (And.intro o2 o3))
      have HC := hid (And.intro o4 (And.intro o5 (And.intro o6 o7)))
      clear o1 o2 o3 o4 o5 o6 o7
      have ne1 : w1.heap.size ≠ w.heap.size + 1 + 1 := by omega
      have ne2 : w1.heap.size ≠ w.heap.size + 1 + 1 + 1 := by omega
      have ne3 : w1.heap.size + 1 ≠ w.heap.size + 1 + 1 := by omega
      have ne4 : w1.heap.size + 1 ≠ w.heap.size + 1 + 1 + 1 := by omega
      go_wp2
      go_region
      all_goals
        clear f0 f1 f2 f3 g0 g1 g2 g3 g4 g5 g6 g7
        generalize ((((w4.setCell ⟨w.heap.size + 1 + 1, 0, none⟩ (Value.bool d1)).setCell ⟨w.heap.size + 1 + 1, 1, none⟩ (Value.slice p1 l1 c1)).setCell ⟨w.heap.size + 1 + 1 + 1, 0, none⟩ (Value.bool d2)).setCell ⟨w.heap.size + 1 + 1 + 1, 1, none⟩ (Value.slice p2 l2 c2)) = Z at *
        have HC' : Hid (Z.drew.cell? ⟨w.heap.size + 1 + 1, 0, none⟩ = some (Value.bool d1) ∧ Z.drew.cell? ⟨w.heap.size + 1 + 1, 1, none⟩ = some (Value.slice p1 l1 c1) ∧ Z.drew.cell? ⟨w.heap.size + 1 + 1 + 1, 0, none⟩ = some (Value.bool d2) ∧ Z.drew.cell? ⟨w.heap.size + 1 + 1 + 1, 1, none⟩ = some (Value.slice p2 l2 c2)) := HC
        go_wp2
        refine bodyPost_ret (v := .tuple #[.agg #[.bool d1, .slice p1 l1 c1], .agg #[.bool d2, .slice p2 l2 c2], .int .i64 0]) (by simp [results, Tryd.results23, go_sem, HC'.out.1, HC'.out.2.1, HC'.out.2.2.1, HC'.out.2.2.2]) rfl ⟨⟨_, _, rfl, ⟨p1, l1, c1, by rw [HE.out.1, HD.out.1], by rw [HE.out.1]; exact (HO.out.1.below (Below.refl _ _).drew).mono (by omega)⟩, ⟨p2, l2, c2, by rw [HE.out.2, HD.out.2], by rw [HE.out.2]; exact (HO.out.2.1.below (Below.refl _ _).drew).mono (by omega)⟩⟩, HO.out.2.2.drew⟩
    · have HE := hid (F2.out (fun h => hss (by have := F4.out.2 h; rw [HS1.out, HS2.out] at this; exact this)) HR0.out)
      have hne : (S1 != S2) = true := bne_iff_ne.2 hss
      have z2 := box_below B3 HY.out.1 (lt_of_block HY.out.1)
      have z3 := box_below B3 HY.out.2.1 (lt_of_block HY.out.2.1)
      have z4 := box_below B3 HY.out.2.2.1 (lt_of_block HY.out.2.2.1)
      have z5 := box_below B3 HY.out.2.2.2.1 (lt_of_block HY.out.2.2.2.1)
      have z6 := box_below B3 HY.out.2.2.2.2 (lt_of_block HY.out.2.2.2.2)
      have C2 := chain2 C1 B3
      have Nq2 := Nq1.below B3
      have Nr2 := Nr1.below B3
      have Nb2 := Nb1.below B3
      clear f0 f1 f2 f3 Nq1 Nr1 Nb1 F1 F2 F3 F4 HY hb2 hb3 hb4 B0 B1 B2 HS1 HS2 C1 m1 m2 B3 gg
      have f0 := two_cell0 z5
      have f1 := two_cell1 z5
      have f2 := two_cell0 z6
      have f3 := two_cell1 z6
      have f4 := two_cell0 z2
      have f5 := two_cell1 z2
      have HZ := hid (And.intro z3 z4)
      have ne1 : w1.heap.size ≠ w.heap.size + 1 + 1 := by omega
      have ne2 : w1.heap.size ≠ w.heap.size + 1 + 1 + 1 := by omega
      have ne3 : w1.heap.size + 1 ≠ w.heap.size + 1 + 1 := by omega
      have ne4 : w1.heap.size + 1 ≠ w.heap.size + 1 + 1 + 1 := by omega
      obtain ⟨Q, hQ⟩ : ∃ Q, x.fdiv y = Q := ⟨_, rfl⟩
      obtain ⟨R, hR⟩ : ∃ R, x.fmod y = R := ⟨_, rfl⟩
      have HQ := hid (And.intro hQ hR)
      have hQ1 : x.tdiv y - 1 = Q := by rw [← hQ]; exact HE.out.1.symm
      have hR1 : x.tmod y + y = R := by rw [← hR]; exact HE.out.2.symm
      have HQ1 := hid hQ1
      have HR1 := hid hR1
      clear hQ hR hQ1 hR1 z2 z3 z4 z5 z6 HE
      skip
      skip
      go_wp2
      have E0 : Below w4.heap.size w4 w4.drew := (Below.refl _ _).drew
      go_region_held3 (fun w' => w'.cell? ⟨w1.heap.size, 0, none⟩ = some (.bool d1) ∧ w'.cell? ⟨w1.heap.size, 1, none⟩ = some (.slice p1 l1 c1) ∧ w'.cell? ⟨w1.heap.size + 1, 0, none⟩ = some (.bool d2) ∧ w'.cell? ⟨w1.heap.size + 1, 1, none⟩ = some (.slice p2 l2 c2) ∧ w'.cell? ⟨w.heap.size + 1, 0, none⟩ = some (.bool b') ∧ w'.cell? ⟨w.heap.size + 1, 1, none⟩ = some (.slice ab lb cb)) ((first | exact ⟨f0, f1, f2, f3, f4, f5⟩ | exact K1 | exact K2 | exact K3 | exact K4 | exact K5)) (first
        | (have gk := E2; go_at_call 44; refine (sadd_any _ _ _ _ _ K K (by omega) (by omega) (Nr2.below E2) (Nb2.below E2)).mono ?_; rintro e w7 ⟨v3, rfl, n3, hb7⟩; have E3 := chain2 E2 hb7; rw [HR1.out] at n3; obtain ⟨a3, l3, c3, rfl, m3⟩ := n3; have m0 := m0.below hb7; have K3 := keepF f0 f1 f2 f3 f4 f5 E3; have y1 := box_below E3 HZ.out.1 (lt_of_block HZ.out.1); have y2 := box_below E3 HZ.out.2 (lt_of_block HZ.out.2); have u0 := two_cell0 y1; have u1 := two_cell1 y1; have v0 := two_free (k := 0) y1; have v1 := two_free (k := 1) y1; have y3 := box_set2 y2 (show w.heap.size + 1 + 1 + 1 ≠ w.heap.size + 1 + 1 by omega) (.bool (decide (Q < 0))) (.slice a2 l2' c2'); have u2 := two_cell0 y3; have u3 := two_cell1 y3; have v2 := two_free (k := 0) y3; have v3 := two_free (k := 1) y3; have K4 := keepF2 K3 ne1 ne3 (show w.heap.size + 1 ≠ w.heap.size + 1 + 1 by omega) (.bool (decide (Q < 0))) (.slice a2 l2' c2'); have K5 := keepF2 K4 ne2 ne4 (show w.heap.size + 1 ≠ w.heap.size + 1 + 1 + 1 by omega) (.bool (decide (R < 0))) (.slice a3 l3 c3))
        | (have gk := E1; go_at_call 43; refine (ssub_any _ _ _ _ _ K 3 (by omega) (by omega) (Nq2.below E1) n1).mono ?_; rintro e w6 ⟨v2, rfl, n2, hb6⟩; have E2 := chain2 E1 hb6; rw [HQ1.out] at n2; obtain ⟨a2, l2', c2', rfl, m0⟩ := n2; have K2 := keepF f0 f1 f2 f3 f4 f5 E2)
        | (have gk := E0; go_at_call 9; refine (sof_any _ 1 (by omega) (by omega)).mono ?_; rintro e w5 ⟨v1, rfl, n1, hb5⟩; have E1 := chain2 E0 hb5; have K1 := keepF f0 f1 f2 f3 f4 f5 E1))
      obtain ⟨o1, o2, o3, o4, o5, o6, o7⟩ := sdiv_out (chain2 C2 E3) (show w.heap.size ≤ w.heap.size + 1 + 1 by omega) (show w.heap.size ≤ w.heap.size + 1 + 1 + 1 by omega) (by omega) y1 y2 m0 m3 _ rfl (x1 := .bool (decide (Q < 0))) (x2 := .bool (decide (R < 0)))
      have HO := hid (And.intro o1 (And.intro o2 o3))
      have HC := hid (And.intro o4 (And.intro o5 (And.intro o6 o7)))
      clear o1 o2 o3 o4 o5 o6 o7 y1 y2 y3 u0 u1 u2 u3 v0 v1 v2 v3 K1 K2 K3 K4 K5 m0 m3 f0 f1 f2 f3 f4 f5 hb5 hb6 hb7 E1 E2 E3
      generalize ((((w7.setCell ⟨w.heap.size + 1 + 1, 0, none⟩ (Value.bool (decide (Q < 0)))).setCell ⟨w.heap.size + 1 + 1, 1, none⟩ (Value.slice a2 l2' c2')).setCell ⟨w.heap.size + 1 + 1 + 1, 0, none⟩ (Value.bool (decide (R < 0)))).setCell ⟨w.heap.size + 1 + 1 + 1, 1, none⟩ (Value.slice a3 l3 c3)) = X at *
      go_wp2
      exact bodyPost_ret (v := .tuple #[.agg #[.bool (decide (Q < 0)), .slice a2 l2' c2'], .agg #[.bool (decide (R < 0)), .slice a3 l3 c3], .int .i64 0]) (by simp [results, Tryd.results23, go_sem, HC.out.1, HC.out.2.1, HC.out.2.2.1, HC.out.2.2.2]) rfl ⟨⟨_, _, rfl, by rw [HQ.out.1]; exact ⟨a2, l2', c2', rfl, HO.out.1.mono (by omega)⟩, by rw [HQ.out.2]; exact ⟨a3, l3, c3, rfl, HO.out.2.1.mono (by omega)⟩⟩, HO.out.2.2⟩
end Go.Proofs.YtchibjdhdbkdhaaDoor
/- The document's whole numbers: DivMod by 0. -/
namespace Go.Proofs.YtchibjdhdbkdhaaDoor
open Go.RowKit
set_option linter.unusedVariables false
set_option maxRecDepth 100000
set_option linter.unusedSimpArgs false
attribute [local go_sem ↓] Go.wp_at_zero Go.wp_at_succ

set_option maxHeartbeats 2000000 in
theorem sdm_zero (w : World) (a b : Value) (x : Int) (K : Nat) (hK : K ≤ 100000000) (ha : RNumIs w a x K) (hb : RNumIs w b 0 K) :
    Calls Tryd.prog 23 #[a, b] w fun e w' => e = .returned (.tuple #[.agg #[.bool false, .slice none 0 0], .agg #[.bool false, .slice none 0 0], .int .i64 12]) ∧ Below w.heap.size w w' := by
  have Na := ha
  have Nb := hb
  obtain ⟨aa, la, ca, rfl, na0⟩ := ha
  obtain ⟨ab, lb, cb, rfl, nb0⟩ := hb
  rw [show decide ((0 : Int) < 0) = false from rfl] at Nb ⊢
  generalize decide (x < 0) = b at *
  obtain ⟨hB, hx, hz, hy, hy', s4⟩ := boxed4 w (Obj.cells #[.bool b, .slice aa la ca] 31) (Obj.cells #[.bool false, .slice ab lb cb] 31) (Obj.cells #[.bool false, .slice none 0 0] 31) (Obj.cells #[.bool false, .slice none 0 0] 31)
  go_enter Tryd.func23, Tryd.ntmps23
  go_wp2_with fail
  generalize (((w.alloc (Obj.cells #[.bool b, .slice aa la ca] 31)).alloc (Obj.cells #[.bool false, .slice ab lb cb] 31)).alloc (Obj.cells #[.bool false, .slice none 0 0] 31)).alloc (Obj.cells #[.bool false, .slice none 0 0] 31) = W at *
  refine (squo_zero W _ _ x K hK (Na.below hB) (Nb.below hB)).mono ?_
  rintro e w1 ⟨rfl, hb1⟩
  have hbx := hb1.size
  have X1 := boxed2 hb1 (Obj.cells #[.bool false, .slice none 0 0] 31) (Obj.cells #[.bool false, .slice none 0 0] 31)
  have z5 := boxed2_first w1 (Obj.cells #[.bool false, .slice none 0 0] 31) (Obj.cells #[.bool false, .slice none 0 0] 31)
  have z6 := boxed2_second w1 (Obj.cells #[.bool false, .slice none 0 0] 31) (Obj.cells #[.bool false, .slice none 0 0] 31)
  have z3 := box_below X1 hy (by omega)
  have z4 := box_below X1 hy' (by omega)
  have C2 := chain2 hB X1
  have hw1 : w.heap.size + 1 + 1 + 1 + 1 ≤ w1.heap.size := by omega
  clear hx hz hy hy' X1 hb1 hB na0 nb0 Na Nb s4
  go_wp2_with fail
  generalize (w1.alloc (Obj.cells #[.bool false, .slice none 0 0] 31)).alloc (Obj.cells #[.bool false, .slice none 0 0] 31) = XX at *
  go_region
  all_goals
    try simp only [List.getElem_toArray, List.getElem_cons_zero, List.getElem_cons_succ, Act.put, List.setIfInBounds_toArray, List.set_cons_succ, List.set_cons_zero]
    have z3 : XX.drew.heap[w.heap.size + 1 + 1]? = some (Obj.cells #[.bool false, .slice none 0 0] 31) := z3
    have z4 : XX.drew.heap[w.heap.size + 1 + 1 + 1]? = some (Obj.cells #[.bool false, .slice none 0 0] 31) := z4
    have z5 : XX.drew.heap[w1.heap.size]? = some (Obj.cells #[.bool false, .slice none 0 0] 31) := z5
    have z6 : XX.drew.heap[w1.heap.size + 1]? = some (Obj.cells #[.bool false, .slice none 0 0] 31) := z6
    have C2 : Below w.heap.size w XX.drew := C2.drew
    generalize XX.drew = V at *
    have f0 := two_cell0 z5
    have f1 := two_cell1 z5
    have f2 := two_cell0 z6
    have f3 := two_cell1 z6
    have g0 := two_cell0 z3
    have g1 := two_cell1 z3
    have g2 := two_free (k := 0) z3
    have g3 := two_free (k := 1) z3
    have g4 := two_cell0 z4
    have g5 := two_cell1 z4
    have g6 := two_free (k := 0) z4
    have g7 := two_free (k := 1) z4
    obtain ⟨o1, o2, o3, o4, o5, o6, o7⟩ := sdiv_out C2 (show w.heap.size ≤ w.heap.size + 1 + 1 by omega) (show w.heap.size ≤ w.heap.size + 1 + 1 + 1 by omega) (by omega) z3 z4 (ref_zero V) (ref_zero V) _ rfl (x1 := .bool false) (x2 := .bool false)
    have HC := hid (And.intro o3 (And.intro o4 (And.intro o5 (And.intro o6 o7))))
    clear o1 o2 o3 o4 o5 o6 o7
    have ne1 : w1.heap.size ≠ w.heap.size + 1 + 1 := by omega
    have ne2 : w1.heap.size ≠ w.heap.size + 1 + 1 + 1 := by omega
    have ne3 : w1.heap.size + 1 ≠ w.heap.size + 1 + 1 := by omega
    have ne4 : w1.heap.size + 1 ≠ w.heap.size + 1 + 1 + 1 := by omega
    go_wp2
    go_region
    all_goals
      clear f0 f1 f2 f3 g0 g1 g2 g3 g4 g5 g6 g7
      generalize ((((V.setCell ⟨w.heap.size + 1 + 1, 0, none⟩ (Value.bool false)).setCell ⟨w.heap.size + 1 + 1, 1, none⟩ (Value.slice none 0 0)).setCell ⟨w.heap.size + 1 + 1 + 1, 0, none⟩ (Value.bool false)).setCell ⟨w.heap.size + 1 + 1 + 1, 1, none⟩ (Value.slice none 0 0)) = Z at *
      have HC' : Hid (Z.drew.cell? ⟨w.heap.size + 1 + 1, 0, none⟩ = some (Value.bool false) ∧ Z.drew.cell? ⟨w.heap.size + 1 + 1, 1, none⟩ = some (Value.slice none 0 0) ∧ Z.drew.cell? ⟨w.heap.size + 1 + 1 + 1, 0, none⟩ = some (Value.bool false) ∧ Z.drew.cell? ⟨w.heap.size + 1 + 1 + 1, 1, none⟩ = some (Value.slice none 0 0)) := HC.out.2
      go_wp2
      exact bodyPost_ret (v := .tuple #[.agg #[.bool false, .slice none 0 0], .agg #[.bool false, .slice none 0 0], .int .i64 12]) (by simp [results, Tryd.results23, go_sem, HC'.out.1, HC'.out.2.1, HC'.out.2.2.1, HC'.out.2.2.2]) rfl ⟨rfl, HC.out.1.drew⟩
end Go.Proofs.YtchibjdhdbkdhaaDoor
/- NumDivides: what the call answers. -/
namespace Go.Proofs.YtchibjdhdbkdhaaDoor
open Go.RowKit
set_option linter.unusedVariables false
set_option maxRecDepth 100000
set_option linter.unusedSimpArgs false
attribute [local go_sem ↓] Go.wp_at_zero Go.wp_at_succ

theorem keepDV {W X : World} {p1 p2 p3 p4 p5 p6 p7 p8 : Nat} {x1 y1 x2 y2 x3 y3 x4 y4 x5 y5 x6 y6 x7 y7 x8 y8 : Value} (h1 : W.cell? ⟨p1, 0, none⟩ = some x1) (k1 : W.cell? ⟨p1, 1, none⟩ = some y1) (h2 : W.cell? ⟨p2, 0, none⟩ = some x2) (k2 : W.cell? ⟨p2, 1, none⟩ = some y2) (h3 : W.cell? ⟨p3, 0, none⟩ = some x3) (k3 : W.cell? ⟨p3, 1, none⟩ = some y3) (h4 : W.cell? ⟨p4, 0, none⟩ = some x4) (k4 : W.cell? ⟨p4, 1, none⟩ = some y4) (h5 : W.cell? ⟨p5, 0, none⟩ = some x5) (k5 : W.cell? ⟨p5, 1, none⟩ = some y5) (h6 : W.cell? ⟨p6, 0, none⟩ = some x6) (k6 : W.cell? ⟨p6, 1, none⟩ = some y6) (h7 : W.cell? ⟨p7, 0, none⟩ = some x7) (k7 : W.cell? ⟨p7, 1, none⟩ = some y7) (h8 : W.cell? ⟨p8, 0, none⟩ = some x8) (k8 : W.cell? ⟨p8, 1, none⟩ = some y8) (h : Below W.heap.size W X) :
    X.cell? ⟨p1, 0, none⟩ = some x1 ∧ X.cell? ⟨p1, 1, none⟩ = some y1 ∧ X.cell? ⟨p2, 0, none⟩ = some x2 ∧ X.cell? ⟨p2, 1, none⟩ = some y2 ∧ X.cell? ⟨p3, 0, none⟩ = some x3 ∧ X.cell? ⟨p3, 1, none⟩ = some y3 ∧ X.cell? ⟨p4, 0, none⟩ = some x4 ∧ X.cell? ⟨p4, 1, none⟩ = some y4 ∧ X.cell? ⟨p5, 0, none⟩ = some x5 ∧ X.cell? ⟨p5, 1, none⟩ = some y5 ∧ X.cell? ⟨p6, 0, none⟩ = some x6 ∧ X.cell? ⟨p6, 1, none⟩ = some y6 ∧ X.cell? ⟨p7, 0, none⟩ = some x7 ∧ X.cell? ⟨p7, 1, none⟩ = some y7 ∧ X.cell? ⟨p8, 0, none⟩ = some x8 ∧ X.cell? ⟨p8, 1, none⟩ = some y8 := ⟨kc h h1, kc h k1, kc h h2, kc h k2, kc h h3, kc h k3, kc h h4, kc h k4, kc h h5, kc h k5, kc h h6, kc h k6, kc h h7, kc h k7, kc h h8, kc h k8⟩
def divEZ (y : Int) : Int := if y = 0 then 12 else 0
def tqZ (x y : Int) : Int := if y = 0 then 0 else x.tdiv y
def trZ (x y : Int) : Int := if y = 0 then 0 else x.tmod y
def fqZ (x y : Int) : Int := if y = 0 then 0 else x.fdiv y
def frZ (x y : Int) : Int := if y = 0 then 0 else x.fmod y
theorem nquo_both (w : World) (a b : Value) (x y : Int) (ha : NumIs w a x 60) (hb : NumIs w b y 60) :
    Calls Tryd.prog 20 #[a, b] w fun e w' => ∃ a1 l1 c1 d1 a2 l2 c2 d2, e = .returned (.tuple #[.agg #[.slice a1 l1 c1, .bool d1], .agg #[.slice a2 l2 c2, .bool d2], .int .i64 (divEZ y)]) ∧ NumIs w' (.agg #[.slice a1 l1 c1, .bool d1]) (tqZ x y) 64 ∧ NumIs w' (.agg #[.slice a2 l2 c2, .bool d2]) (trZ x y) 64 ∧ Below w.heap.size w w' := by
  by_cases h : y = 0
  · subst h
    refine (nquo_zero w a b x 60 (by omega) ha hb).mono ?_
    rintro e w' ⟨rfl, hw⟩
    exact ⟨none, 0, 0, false, none, 0, 0, false, rfl, ⟨none, 0, 0, by simp [tqZ], by simpa [tqZ] using (nat_zero w').mono (Nat.zero_le 64)⟩, ⟨none, 0, 0, by simp [trZ], by simpa [trZ] using (nat_zero w').mono (Nat.zero_le 64)⟩, hw⟩
  · refine (nquo_any w a b x y 60 (by omega) ha hb h).mono ?_
    rintro e w' ⟨⟨q, r, rfl, h1, h2⟩, hw⟩
    have h1' := h1
    have h2' := h2
    obtain ⟨a1, l1, c1, rfl, _⟩ := h1'
    obtain ⟨a2, l2, c2, rfl, _⟩ := h2'
    exact ⟨a1, l1, c1, decide (x.tdiv y < 0), a2, l2, c2, decide (x.tmod y < 0), by simp [divEZ, h], by simpa [tqZ, h] using h1.mono (show _ ≤ 64 by omega), by simpa [trZ, h] using h2.mono (show _ ≤ 64 by omega), hw⟩
theorem squo_both (w : World) (a b : Value) (x y : Int) (ha : RNumIs w a x 60) (hb : RNumIs w b y 60) :
    Calls Tryd.prog 21 #[a, b] w fun e w' => ∃ a1 l1 c1 d1 a2 l2 c2 d2, e = .returned (.tuple #[.agg #[.bool d1, .slice a1 l1 c1], .agg #[.bool d2, .slice a2 l2 c2], .int .i64 (divEZ y)]) ∧ RNumIs w' (.agg #[.bool d1, .slice a1 l1 c1]) (tqZ x y) 64 ∧ RNumIs w' (.agg #[.bool d2, .slice a2 l2 c2]) (trZ x y) 64 ∧ Below w.heap.size w w' := by
  by_cases h : y = 0
  · subst h
    refine (squo_zero w a b x 60 (by omega) ha hb).mono ?_
    rintro e w' ⟨rfl, hw⟩
    exact ⟨none, 0, 0, false, none, 0, 0, false, rfl, ⟨none, 0, 0, by simp [tqZ], by simpa [tqZ] using (ref_zero w').mono (Nat.zero_le 64)⟩, ⟨none, 0, 0, by simp [trZ], by simpa [trZ] using (ref_zero w').mono (Nat.zero_le 64)⟩, hw⟩
  · refine (squo_any w a b x y 60 (by omega) ha hb h).mono ?_
    rintro e w' ⟨⟨q, r, rfl, h1, h2⟩, hw⟩
    have h1' := h1
    have h2' := h2
    obtain ⟨a1, l1, c1, rfl, _⟩ := h1'
    obtain ⟨a2, l2, c2, rfl, _⟩ := h2'
    exact ⟨a1, l1, c1, decide (x.tdiv y < 0), a2, l2, c2, decide (x.tmod y < 0), by simp [divEZ, h], by simpa [tqZ, h] using h1.mono (show _ ≤ 64 by omega), by simpa [trZ, h] using h2.mono (show _ ≤ 64 by omega), hw⟩
theorem ndm_both (w : World) (a b : Value) (x y : Int) (ha : NumIs w a x 60) (hb : NumIs w b y 60) :
    Calls Tryd.prog 22 #[a, b] w fun e w' => ∃ a1 l1 c1 d1 a2 l2 c2 d2, e = .returned (.tuple #[.agg #[.slice a1 l1 c1, .bool d1], .agg #[.slice a2 l2 c2, .bool d2], .int .i64 (divEZ y)]) ∧ NumIs w' (.agg #[.slice a1 l1 c1, .bool d1]) (fqZ x y) 64 ∧ NumIs w' (.agg #[.slice a2 l2 c2, .bool d2]) (frZ x y) 64 ∧ Below w.heap.size w w' := by
  by_cases h : y = 0
  · subst h
    refine (ndm_zero w a b x 60 (by omega) ha hb).mono ?_
    rintro e w' ⟨rfl, hw⟩
    exact ⟨none, 0, 0, false, none, 0, 0, false, rfl, ⟨none, 0, 0, by simp [fqZ], by simpa [fqZ] using (nat_zero w').mono (Nat.zero_le 64)⟩, ⟨none, 0, 0, by simp [frZ], by simpa [frZ] using (nat_zero w').mono (Nat.zero_le 64)⟩, hw⟩
  · refine (ndm_any w a b x y 60 (by omega) ha hb h).mono ?_
    rintro e w' ⟨⟨q, r, rfl, h1, h2⟩, hw⟩
    have h1' := h1
    have h2' := h2
    obtain ⟨a1, l1, c1, rfl, _⟩ := h1'
    obtain ⟨a2, l2, c2, rfl, _⟩ := h2'
    exact ⟨a1, l1, c1, decide (x.fdiv y < 0), a2, l2, c2, decide (x.fmod y < 0), by simp [divEZ, h], by simpa [fqZ, h] using h1.mono (show _ ≤ 64 by omega), by simpa [frZ, h] using h2.mono (show _ ≤ 64 by omega), hw⟩
theorem sdm_both (w : World) (a b : Value) (x y : Int) (ha : RNumIs w a x 60) (hb : RNumIs w b y 60) :
    Calls Tryd.prog 23 #[a, b] w fun e w' => ∃ a1 l1 c1 d1 a2 l2 c2 d2, e = .returned (.tuple #[.agg #[.bool d1, .slice a1 l1 c1], .agg #[.bool d2, .slice a2 l2 c2], .int .i64 (divEZ y)]) ∧ RNumIs w' (.agg #[.bool d1, .slice a1 l1 c1]) (fqZ x y) 64 ∧ RNumIs w' (.agg #[.bool d2, .slice a2 l2 c2]) (frZ x y) 64 ∧ Below w.heap.size w w' := by
  by_cases h : y = 0
  · subst h
    refine (sdm_zero w a b x 60 (by omega) ha hb).mono ?_
    rintro e w' ⟨rfl, hw⟩
    exact ⟨none, 0, 0, false, none, 0, 0, false, rfl, ⟨none, 0, 0, by simp [fqZ], by simpa [fqZ] using (ref_zero w').mono (Nat.zero_le 64)⟩, ⟨none, 0, 0, by simp [frZ], by simpa [frZ] using (ref_zero w').mono (Nat.zero_le 64)⟩, hw⟩
  · refine (sdm_any w a b x y 60 (by omega) ha hb h).mono ?_
    rintro e w' ⟨⟨q, r, rfl, h1, h2⟩, hw⟩
    have h1' := h1
    have h2' := h2
    obtain ⟨a1, l1, c1, rfl, _⟩ := h1'
    obtain ⟨a2, l2, c2, rfl, _⟩ := h2'
    exact ⟨a1, l1, c1, decide (x.fdiv y < 0), a2, l2, c2, decide (x.fmod y < 0), by simp [divEZ, h], by simpa [fqZ, h] using h1.mono (show _ ≤ 64 by omega), by simpa [frZ, h] using h2.mono (show _ ≤ 64 by omega), hw⟩
set_option maxRecDepth 100000 in
set_option maxHeartbeats 8000000 in
theorem ndivides_any (x y : ByteArray) (w : World) (htab : Tab w) :
    Calls Tryd.prog 4 #[.string x, .string y] w fun e w' => e = .returned (.bool true) ∧ Below w.heap.size w w' := by
  have hb0 : Below w.heap.size w (w.alloc (Obj.cells #[.string x, .string y] 9)) := (Below.refl _ _).alloc (Nat.le_refl _) _
  go_enter Tryd.func4, Tryd.ntmps4
  go_wp2_with fail
  refine (long2_any _ w.heap.size 2 [x, y] (by omega) ?_).mono ?_
  · intro k hk
    match k, hk with
    | 0, _ => simp [go_sem, sg]
    | 1, _ => simp [go_sem, sg]
  rintro e w1 ⟨h | ⟨h, hsz⟩, rfl⟩
  · rw [h]
    go_wp2
    go_ret
    exact ⟨rfl, hb0⟩
  rw [h]
  have hx := hsz 0 (by omega)
  have hy := hsz 1 (by omega)
  simp only [sg, List.getD_cons_zero, List.getD_cons_succ] at hx hy
  clear hsz h
  generalize w.alloc (Obj.cells #[.string x, .string y] 9) = w1 at *
  go_wp2_with fail
  refine (number2_any x _ (by omega)).mono ?_
  rintro e u1 ⟨⟨aa, la, ca, ar1, lr1, cr1, n1, b1, rfl, f1⟩, hb1⟩
  have F1 := hid f1
  clear f1
  go_wp2_with fail
  refine (number2_any y _ (by omega)).mono ?_
  rintro e u2 ⟨⟨ab, lb, cb, ar2, lr2, cr2, n2, b2, rfl, f2⟩, hb2⟩
  have F2 := hid f2
  clear f2
  have c1 := boxed2 hb1 (Obj.cells #[Value.slice aa la ca, Value.bool n1] 26) (Obj.cells #[Value.bool n1, Value.slice ar1 lr1 cr1] 31)
  have c2 := boxed2 hb2 (Obj.cells #[Value.slice ab lb cb, Value.bool n2] 26) (Obj.cells #[Value.bool n2, Value.slice ar2 lr2 cr2] 31)
  have d1 := boxed2 (Below.refl u1.heap.size u1) (Obj.cells #[Value.slice aa la ca, Value.bool n1] 26) (Obj.cells #[Value.bool n1, Value.slice ar1 lr1 cr1] 31)
  have d2 := boxed2 (Below.refl u2.heap.size u2) (Obj.cells #[Value.slice ab lb cb, Value.bool n2] 26) (Obj.cells #[Value.bool n2, Value.slice ar2 lr2 cr2] 31)
  have p1 := boxed2_first u1 (Obj.cells #[Value.slice aa la ca, Value.bool n1] 26) (Obj.cells #[Value.bool n1, Value.slice ar1 lr1 cr1] 31)
  have r1 := boxed2_second u1 (Obj.cells #[Value.slice aa la ca, Value.bool n1] 26) (Obj.cells #[Value.bool n1, Value.slice ar1 lr1 cr1] 31)
  have p2 := boxed2_first u2 (Obj.cells #[Value.slice ab lb cb, Value.bool n2] 26) (Obj.cells #[Value.bool n2, Value.slice ar2 lr2 cr2] 31)
  have r2 := boxed2_second u2 (Obj.cells #[Value.slice ab lb cb, Value.bool n2] 26) (Obj.cells #[Value.bool n2, Value.slice ar2 lr2 cr2] 31)
  clear hb1
  generalize (u1.alloc (Obj.cells #[Value.slice aa la ca, Value.bool n1] 26)).alloc (Obj.cells #[Value.bool n1, Value.slice ar1 lr1 cr1] 31) = W1 at *
  have g1 : Below w.heap.size w ((u2.alloc (Obj.cells #[Value.slice ab lb cb, Value.bool n2] 26)).alloc (Obj.cells #[Value.bool n2, Value.slice ar2 lr2 cr2] 31)) := chain2 (chain2 hb0 c1) c2
  have q1 := (box_below c2 p1 (lt_of_block p1))
  have s1 := (box_below c2 r1 (lt_of_block r1))
  have q2 := p2
  have s2 := r2
  have hall : b1 = true ∧ b2 = true ∨ b1 = false ∨ b2 = false := by
    cases b1 <;> cases b2 <;> simp
  rcases hall with ⟨rfl, rfl⟩ | hall
  · obtain ⟨X, tx, e1, na1, ra1⟩ := F1.out rfl
    obtain ⟨Y, ty, e2, na2, ra2⟩ := F2.out rfl
    have Na : NumIs ((u2.alloc (Obj.cells #[Value.slice ab lb cb, Value.bool n2] 26)).alloc (Obj.cells #[Value.bool n2, Value.slice ar2 lr2 cr2] 31)) (Value.agg #[Value.slice aa la ca, Value.bool n1]) X 60 := ⟨_, _, _, by rw [e1], ((na1.below d1).below c2).mono (show _ ≤ 60 by omega)⟩
    have Ma : RNumIs ((u2.alloc (Obj.cells #[Value.slice ab lb cb, Value.bool n2] 26)).alloc (Obj.cells #[Value.bool n2, Value.slice ar2 lr2 cr2] 31)) (Value.agg #[Value.bool n1, Value.slice ar1 lr1 cr1]) X 60 := ⟨_, _, _, by rw [e1], ((ra1.below d1).below c2).mono (show _ ≤ 60 by omega)⟩
    have TX := hid tx
    have H1 := hid e1
    have Nb : NumIs ((u2.alloc (Obj.cells #[Value.slice ab lb cb, Value.bool n2] 26)).alloc (Obj.cells #[Value.bool n2, Value.slice ar2 lr2 cr2] 31)) (Value.agg #[Value.slice ab lb cb, Value.bool n2]) Y 60 := ⟨_, _, _, by rw [e2], (na2.below d2).mono (show _ ≤ 60 by omega)⟩
    have Mb : RNumIs ((u2.alloc (Obj.cells #[Value.slice ab lb cb, Value.bool n2] 26)).alloc (Obj.cells #[Value.bool n2, Value.slice ar2 lr2 cr2] 31)) (Value.agg #[Value.bool n2, Value.slice ar2 lr2 cr2]) Y 60 := ⟨_, _, _, by rw [e2], (ra2.below d2).mono (show _ ≤ 60 by omega)⟩
    have TY := hid ty
    have H2 := hid e2
    have v1 := box_below hb2 p1 (lt_of_block p1)
    have m1 := two_cell0 v1
    have o1 := two_cell1 v1
    have l1 := lt_of_block v1
    clear v1
    clear F1 F2 c1 c2 d1 d2 hb2 e1 e2 na1 na2 ra1 ra2 tx ty p1 p2 r1 r2
    have t1 := two_cell0 q1
    have t2 := two_cell1 q1
    have t3 := two_cell0 q2
    have t4 := two_cell1 q2
    go_wp2_with fail
    generalize ((u2.alloc (Obj.cells #[Value.slice ab lb cb, Value.bool n2] 26)).alloc (Obj.cells #[Value.bool n2, Value.slice ar2 lr2 cr2] 31)) = W2 at *
    obtain ⟨E, hE⟩ : ∃ E, divEZ Y = E := ⟨_, rfl⟩
    have HE := hid hE
    clear hE
    refine (nquo_both _ _ _ X Y Na Nb).mono ?_
    rintro e w3 ⟨aq, lq, cq, dq, am, lm, cm, dm, rfl, Nq, Nm, hb3⟩
    rw [HE.out]
    have X3 := boxed2 hb3 (Obj.cells #[Value.slice aq lq cq, Value.bool dq] 26) (Obj.cells #[Value.slice am lm cm, Value.bool dm] 26)
    have Y3 := boxed2 (Below.refl w3.heap.size w3) (Obj.cells #[Value.slice aq lq cq, Value.bool dq] 26) (Obj.cells #[Value.slice am lm cm, Value.bool dm] 26)
    have zq := boxed2_first w3 (Obj.cells #[Value.slice aq lq cq, Value.bool dq] 26) (Obj.cells #[Value.slice am lm cm, Value.bool dm] 26)
    have zm := boxed2_second w3 (Obj.cells #[Value.slice aq lq cq, Value.bool dq] 26) (Obj.cells #[Value.slice am lm cm, Value.bool dm] 26)
    have C3 := chain2 g1 X3
    have q1 := box_below X3 q1 (lt_of_block q1)
    have q2 := box_below X3 q2 (lt_of_block q2)
    have s1 := box_below X3 s1 (lt_of_block s1)
    have s2 := box_below X3 s2 (lt_of_block s2)
    have Na := Na.below X3
    have Nb := Nb.below X3
    have Ma := Ma.below X3
    have Mb := Mb.below X3
    have Nq := Nq.below Y3
    have Nm := Nm.below Y3
    clear t1 t2 t3 t4 X3 Y3 hb3 m1 o1
    have t1 := two_cell0 s1
    have t2 := two_cell1 s1
    have t3 := two_cell0 s2
    have t4 := two_cell1 s2
    go_wp2_with fail
    generalize (w3.alloc (Obj.cells #[Value.slice aq lq cq, Value.bool dq] 26)).alloc (Obj.cells #[Value.slice am lm cm, Value.bool dm] 26) = W3 at *
    refine (squo_both _ _ _ X Y Ma Mb).mono ?_
    rintro e w4 ⟨ap, lp, cp, dp, an, ln, cn, dn, rfl, Mq, Mm, hb4⟩
    rw [HE.out]
    have X4 := boxed2 hb4 (Obj.cells #[Value.bool dp, Value.slice ap lp cp] 31) (Obj.cells #[Value.bool dn, Value.slice an ln cn] 31)
    have Y4 := boxed2 (Below.refl w4.heap.size w4) (Obj.cells #[Value.bool dp, Value.slice ap lp cp] 31) (Obj.cells #[Value.bool dn, Value.slice an ln cn] 31)
    have zp := boxed2_first w4 (Obj.cells #[Value.bool dp, Value.slice ap lp cp] 31) (Obj.cells #[Value.bool dn, Value.slice an ln cn] 31)
    have zn := boxed2_second w4 (Obj.cells #[Value.bool dp, Value.slice ap lp cp] 31) (Obj.cells #[Value.bool dn, Value.slice an ln cn] 31)
    have C4 := chain2 C3 X4
    have q1 := box_below X4 q1 (lt_of_block q1)
    have q2 := box_below X4 q2 (lt_of_block q2)
    have s1 := box_below X4 s1 (lt_of_block s1)
    have s2 := box_below X4 s2 (lt_of_block s2)
    have zq := box_below X4 zq (lt_of_block zq)
    have zm := box_below X4 zm (lt_of_block zm)
    have Na := Na.below X4
    have Nb := Nb.below X4
    have Ma := Ma.below X4
    have Mb := Mb.below X4
    have Nq := Nq.below X4
    have Nm := Nm.below X4
    have Mq := Mq.below Y4
    have Mm := Mm.below Y4
    clear t1 t2 t3 t4 X4 Y4 hb4
    have t1 := two_cell0 q1
    have t2 := two_cell1 q1
    have t3 := two_cell0 q2
    have t4 := two_cell1 q2
    go_wp2_with fail
    generalize (w4.alloc (Obj.cells #[Value.bool dp, Value.slice ap lp cp] 31)).alloc (Obj.cells #[Value.bool dn, Value.slice an ln cn] 31) = W4 at *
    refine (ndm_both _ _ _ X Y Na Nb).mono ?_
    rintro e w5 ⟨au, lu, cu, du, av, lv, cv, dv, rfl, Nu, Nv, hb5⟩
    rw [HE.out]
    have X5 := boxed2 hb5 (Obj.cells #[Value.slice au lu cu, Value.bool du] 26) (Obj.cells #[Value.slice av lv cv, Value.bool dv] 26)
    have Y5 := boxed2 (Below.refl w5.heap.size w5) (Obj.cells #[Value.slice au lu cu, Value.bool du] 26) (Obj.cells #[Value.slice av lv cv, Value.bool dv] 26)
    have zu := boxed2_first w5 (Obj.cells #[Value.slice au lu cu, Value.bool du] 26) (Obj.cells #[Value.slice av lv cv, Value.bool dv] 26)
    have zv := boxed2_second w5 (Obj.cells #[Value.slice au lu cu, Value.bool du] 26) (Obj.cells #[Value.slice av lv cv, Value.bool dv] 26)
    have C5 := chain2 C4 X5
    have s1 := box_below X5 s1 (lt_of_block s1)
    have s2 := box_below X5 s2 (lt_of_block s2)
    have zq := box_below X5 zq (lt_of_block zq)
    have zm := box_below X5 zm (lt_of_block zm)
    have zp := box_below X5 zp (lt_of_block zp)
    have zn := box_below X5 zn (lt_of_block zn)
    have Ma := Ma.below X5
    have Mb := Mb.below X5
    have Nq := Nq.below X5
    have Nm := Nm.below X5
    have Mq := Mq.below X5
    have Mm := Mm.below X5
    have Nu := Nu.below Y5
    have Nv := Nv.below Y5
    clear t1 t2 t3 t4 X5 Y5 hb5
    have t1 := two_cell0 s1
    have t2 := two_cell1 s1
    have t3 := two_cell0 s2
    have t4 := two_cell1 s2
    go_wp2_with fail
    generalize (w5.alloc (Obj.cells #[Value.slice au lu cu, Value.bool du] 26)).alloc (Obj.cells #[Value.slice av lv cv, Value.bool dv] 26) = W5 at *
    refine (sdm_both _ _ _ X Y Ma Mb).mono ?_
    rintro e w6 ⟨aw, lw, cw, dw, az, lz, cz, dz, rfl, Mu, Mv, hb6⟩
    rw [HE.out]
    have X6 := boxed2 hb6 (Obj.cells #[Value.bool dw, Value.slice aw lw cw] 31) (Obj.cells #[Value.bool dz, Value.slice az lz cz] 31)
    have Y6 := boxed2 (Below.refl w6.heap.size w6) (Obj.cells #[Value.bool dw, Value.slice aw lw cw] 31) (Obj.cells #[Value.bool dz, Value.slice az lz cz] 31)
    have zw := boxed2_first w6 (Obj.cells #[Value.bool dw, Value.slice aw lw cw] 31) (Obj.cells #[Value.bool dz, Value.slice az lz cz] 31)
    have zz := boxed2_second w6 (Obj.cells #[Value.bool dw, Value.slice aw lw cw] 31) (Obj.cells #[Value.bool dz, Value.slice az lz cz] 31)
    have C6 := chain2 C5 X6
    have zq := box_below X6 zq (lt_of_block zq)
    have zm := box_below X6 zm (lt_of_block zm)
    have zp := box_below X6 zp (lt_of_block zp)
    have zn := box_below X6 zn (lt_of_block zn)
    have zu := box_below X6 zu (lt_of_block zu)
    have zv := box_below X6 zv (lt_of_block zv)
    have Nq := Nq.below X6
    have Nm := Nm.below X6
    have Mq := Mq.below X6
    have Mm := Mm.below X6
    have Nu := Nu.below X6
    have Nv := Nv.below X6
    have Mu := Mu.below Y6
    have Mv := Mv.below Y6
    clear t1 t2 t3 t4 X6 Y6 hb6
    have t1 := two_cell0 zq
    have t2 := two_cell1 zq
    have t3 := two_cell0 zm
    have t4 := two_cell1 zm
    have t5 := two_cell0 zp
    have t6 := two_cell1 zp
    have t7 := two_cell0 zn
    have t8 := two_cell1 zn
    have t9 := two_cell0 zu
    have t10 := two_cell1 zu
    have t11 := two_cell0 zv
    have t12 := two_cell1 zv
    have t13 := two_cell0 zw
    have t14 := two_cell1 zw
    have t15 := two_cell0 zz
    have t16 := two_cell1 zz
    clear q1 q2 s1 s2 zq zm zp zn zu zv zw zz
    have tabE := htab.below C6
    generalize tqZ X Y = Q1 at *
    generalize trZ X Y = Q2 at *
    generalize fqZ X Y = Q3 at *
    generalize frZ X Y = Q4 at *
    go_wp2
    generalize (w6.alloc (Obj.cells #[Value.bool dw, Value.slice aw lw cw] 31)).alloc (Obj.cells #[Value.bool dz, Value.slice az lz cz] 31) = X0 at *
    have B0 : Below X0.heap.size X0 X0.drew := (Below.refl _ _).drew
    try simp only [List.append_eq, List.cons_append, List.nil_append]
    go_region_held3 (fun w' => w'.cell? ⟨w3.heap.size, 0, none⟩ = some (Value.slice aq lq cq) ∧ w'.cell? ⟨w3.heap.size, 1, none⟩ = some (Value.bool dq) ∧ w'.cell? ⟨w3.heap.size + 1, 0, none⟩ = some (Value.slice am lm cm) ∧ w'.cell? ⟨w3.heap.size + 1, 1, none⟩ = some (Value.bool dm) ∧ w'.cell? ⟨w4.heap.size, 0, none⟩ = some (Value.bool dp) ∧ w'.cell? ⟨w4.heap.size, 1, none⟩ = some (Value.slice ap lp cp) ∧ w'.cell? ⟨w4.heap.size + 1, 0, none⟩ = some (Value.bool dn) ∧ w'.cell? ⟨w4.heap.size + 1, 1, none⟩ = some (Value.slice an ln cn) ∧ w'.cell? ⟨w5.heap.size, 0, none⟩ = some (Value.slice au lu cu) ∧ w'.cell? ⟨w5.heap.size, 1, none⟩ = some (Value.bool du) ∧ w'.cell? ⟨w5.heap.size + 1, 0, none⟩ = some (Value.slice av lv cv) ∧ w'.cell? ⟨w5.heap.size + 1, 1, none⟩ = some (Value.bool dv) ∧ w'.cell? ⟨w6.heap.size, 0, none⟩ = some (Value.bool dw) ∧ w'.cell? ⟨w6.heap.size, 1, none⟩ = some (Value.slice aw lw cw) ∧ w'.cell? ⟨w6.heap.size + 1, 0, none⟩ = some (Value.bool dz) ∧ w'.cell? ⟨w6.heap.size + 1, 1, none⟩ = some (Value.slice az lz cz)) ((refine keepDV t1 t2 t3 t4 t5 t6 t7 t8 t9 t10 t11 t12 t13 t14 t15 t16 ?_; first | exact B0 | exact B1 | exact B2 | exact B3 | exact B4 | exact B5 | exact B6 | exact B7 | exact B8)) (first
      | (have gk := B7; go_at_call 10; refine (stext_any _ _ _ _ (by omega) (Mv.below B7)).mono ?_; rintro e w108 ⟨⟨s108, rfl, h108⟩, hb108⟩; have B8 := chain2 B7 hb108; rw [h108.inj h107])
      | (have gk := B6; go_at_call 8; refine (ntext_any _ _ _ _ (by omega) (Nv.below B6) (tabE.below B6)).mono ?_; rintro e w107 ⟨⟨s107, rfl, h107⟩, hb107⟩; have B7 := chain2 B6 hb107)
      | (have gk := B5; go_at_call 10; refine (stext_any _ _ _ _ (by omega) (Mu.below B5)).mono ?_; rintro e w106 ⟨⟨s106, rfl, h106⟩, hb106⟩; have B6 := chain2 B5 hb106; rw [h106.inj h105])
      | (have gk := B4; go_at_call 8; refine (ntext_any _ _ _ _ (by omega) (Nu.below B4) (tabE.below B4)).mono ?_; rintro e w105 ⟨⟨s105, rfl, h105⟩, hb105⟩; have B5 := chain2 B4 hb105)
      | (have gk := B3; go_at_call 10; refine (stext_any _ _ _ _ (by omega) (Mm.below B3)).mono ?_; rintro e w104 ⟨⟨s104, rfl, h104⟩, hb104⟩; have B4 := chain2 B3 hb104; rw [h104.inj h103])
      | (have gk := B2; go_at_call 8; refine (ntext_any _ _ _ _ (by omega) (Nm.below B2) (tabE.below B2)).mono ?_; rintro e w103 ⟨⟨s103, rfl, h103⟩, hb103⟩; have B3 := chain2 B2 hb103)
      | (have gk := B1; go_at_call 10; refine (stext_any _ _ _ _ (by omega) (Mq.below B1)).mono ?_; rintro e w102 ⟨⟨s102, rfl, h102⟩, hb102⟩; have B2 := chain2 B1 hb102; rw [h102.inj h101])
      | (have gk := B0; go_at_call 8; refine (ntext_any _ _ _ _ (by omega) (Nq.below B0) (tabE.below B0)).mono ?_; rintro e w101 ⟨⟨s101, rfl, h101⟩, hb101⟩; have B1 := chain2 B0 hb101))
    all_goals
      have g9 := chain2 C6 B8
      clear B0 B1 B2 B3 B4 B5 B6 B7 B8 hb101 hb102 hb103 hb104 hb105 hb106 hb107 hb108
      go_wp2
      go_ret
      exact ⟨rfl, g9⟩
  · have hb : b1 = false ∨ b1 = true ∧ b2 = false := by
      cases b1 <;> cases b2 <;> simp at hall ⊢
    clear hall F1 F2 c1 d1 p1 r1 q1 s1 c2 d2 p2 r2 q2 s2 hb2
    rcases hb with rfl | ⟨rfl, rfl⟩
    all_goals
      go_wp2
      go_ret
      exact ⟨rfl, g1⟩
end Go.Proofs.YtchibjdhdbkdhaaDoor
