/- The document's whole numbers: DivMod, the quotient rounded down. -/
import Derived.Test.YtjldlmonccgopaaGreatDoorPk23
import Derived.Test.YtjldlmonccgopaaGreatDoorZSText
import Derived.Test.YtjldlmonccgopaaGreatDoorPk21
namespace Go.Proofs.YtjldlmonccgopaaGreatDoor
open Go.RowKit
set_option linter.unusedVariables false
set_option maxRecDepth 100000
set_option linter.unusedSimpArgs false
attribute [local go_sem ↓] Go.wp_at_zero Go.wp_at_succ

theorem sign_same {x y : Int} (h : x.tmod y ≠ 0) (hy : y ≠ 0) : signZ (x.tmod y) = signZ y ↔ decide (x < 0) = decide (y < 0) := by
  have hs : 0 ≤ x → 0 ≤ x.tmod y := fun h => Int.tmod_nonneg y h
  have hs' : x < 0 → x.tmod y ≤ 0 := fun h => by
    have := Int.tmod_nonneg (a := -x) y (by omega)
    rw [Int.neg_tmod] at this; omega
  generalize x.tmod y = r at *
  unfold signZ
  by_cases hx : x < 0
  · have := hs' hx
    by_cases hy0 : y < 0
    · simp [hx, hy0, show r < 0 by omega]
    · simp [hx, hy0, show r < 0 by omega, show 0 < y by omega]
  · have := hs (by omega)
    by_cases hy0 : y < 0
    · simp [hx, hy0, show ¬ r < 0 by omega, show 0 < r by omega]
    · simp [hx, hy0, show ¬ r < 0 by omega, show 0 < r by omega, show 0 < y by omega]
set_option maxHeartbeats 4000000 in
theorem sdm_any (w : World) (a b : Value) (x y : Int) (K : Nat) (hK : K ≤ 100000000) (ha : RNumIs w a x K) (hb : RNumIs w b y K) (h0 : y ≠ 0) :
    Calls Tryz.prog 38 #[a, b] w fun e w' => (∃ q r, e = .returned (.tuple #[q, r, .int .i64 0]) ∧ RNumIs w' q (x.fdiv y) (K + 4) ∧ RNumIs w' r (x.fmod y) (K + 1)) ∧ Below w.heap.size w w' := by
  obtain ⟨aa, la, ca, rfl, na0⟩ := ha
  obtain ⟨ab, lb, cb, rfl, nb0⟩ := hb
  have Na : RNumIs w (.agg #[.bool (decide (x < 0)), .slice aa la ca]) x K := ⟨aa, la, ca, rfl, na0⟩
  have Nb : RNumIs w (.agg #[.bool (decide (y < 0)), .slice ab lb cb]) y K := ⟨ab, lb, cb, rfl, nb0⟩
  have F1 := hid (fdiv_same (x := x) h0)
  have F2 := hid (fdiv_less (x := x) h0)
  have F3 := hid (fun h => sign_same (x := x) h h0)
  generalize hbx : decide (x < 0) = b at *
  generalize hby : decide (y < 0) = b' at *
  have HBX := hid (And.intro hbx hby)
  clear hbx hby
  obtain ⟨hB, hx, hz, hy, hy', s4⟩ := boxed4 w (Obj.cells #[.bool b, .slice aa la ca] 34) (Obj.cells #[.bool b', .slice ab lb cb] 34) (Obj.cells #[.bool false, .slice none 0 0] 34) (Obj.cells #[.bool false, .slice none 0 0] 34)
  go_enter Tryz.func38, Tryz.ntmps38
  go_wp2_with fail
  generalize (((w.alloc (Obj.cells #[.bool b, .slice aa la ca] 34)).alloc (Obj.cells #[.bool b', .slice ab lb cb] 34)).alloc (Obj.cells #[.bool false, .slice none 0 0] 34)).alloc (Obj.cells #[.bool false, .slice none 0 0] 34) = W at *
  refine (squo_any W _ _ x y K hK (Na.below hB) (Nb.below hB) h0).mono ?_
  rintro e w1 ⟨⟨q, r, rfl, nq, nr⟩, hb1⟩
  have Nq := nq
  have Nr := nr
  obtain ⟨p1, l1, c1, rfl, m1⟩ := nq
  obtain ⟨p2, l2, c2, rfl, m2⟩ := nr
  have hbx := hb1.size
  obtain ⟨d1, hd1⟩ : ∃ d1, decide (x.tdiv y < 0) = d1 := ⟨_, rfl⟩
  obtain ⟨d2, hd2⟩ : ∃ d2, decide (x.tmod y < 0) = d2 := ⟨_, rfl⟩
  rw [hd1, hd2]
  rw [hd1] at Nq
  rw [hd2] at Nr
  have X1 := boxed2 hb1 (Obj.cells #[.bool d1, .slice p1 l1 c1] 34) (Obj.cells #[.bool d2, .slice p2 l2 c2] 34)
  have Y1 := boxed2 (Below.refl w1.heap.size w1) (Obj.cells #[.bool d1, .slice p1 l1 c1] 34) (Obj.cells #[.bool d2, .slice p2 l2 c2] 34)
  have bq := boxed2_first w1 (Obj.cells #[.bool d1, .slice p1 l1 c1] 34) (Obj.cells #[.bool d2, .slice p2 l2 c2] 34)
  have br := boxed2_second w1 (Obj.cells #[.bool d1, .slice p1 l1 c1] 34) (Obj.cells #[.bool d2, .slice p2 l2 c2] 34)
  have hz1 := box_below X1 hz (by omega)
  have hy1 := box_below X1 hy (by omega)
  have hy1' := box_below X1 hy' (by omega)
  have C1 := chain2 hB X1
  have Nq1 := Nq.below Y1
  have Nr1 := Nr.below Y1
  have Nb1 := Nb.below C1
  have m1 := m1.below Y1
  have m2 := m2.below Y1
  have HD := hid (And.intro hd1 hd2)
  have HY := hid (And.intro hz1 (And.intro hy1 (And.intro hy1' (And.intro bq br))))
  have hw1 : w.heap.size + 1 + 1 + 1 + 1 ≤ w1.heap.size := by omega
  clear hd1 hd2 hx hz hy hy' hz1 hy1 hy1' bq br X1 Y1 hb1 hB Nq Nr na0 nb0 Na Nb s4
  go_wp2_with fail
  generalize (w1.alloc (Obj.cells #[.bool d1, .slice p1 l1 c1] 34)).alloc (Obj.cells #[.bool d2, .slice p2 l2 c2] 34) = XX at *
  have f0 := two_cell0 HY.out.2.2.2.2
  have f1 := two_cell1 HY.out.2.2.2.2
  have f2 := two_cell0 HY.out.1
  have f3 := two_cell1 HY.out.1
  have B0 : Below XX.heap.size XX XX.drew := (Below.refl _ _).drew
  by_cases hr0 : x.tmod y = 0
  · have HE := hid (F1.out (Or.inr hr0))
    have HS := hid (show signZ (x.tmod y) = 0 by rw [hr0]; rfl)
    clear hr0
    go_region_with (first
      | (go_at_call 46; refine (ssign_any _ _ _ K (by omega) (Nr1.below B0)).mono ?_; rintro e w2 ⟨rfl, hb2⟩; have DD := chain2 B0 hb2; rw [HS.out]))
    all_goals
      simp only [List.getElem_toArray, List.getElem_cons_zero, List.getElem_cons_succ, Act.put, List.setIfInBounds_toArray, List.set_cons_succ, List.set_cons_zero]
      have z2 := box_below DD HY.out.1 (lt_of_block HY.out.1)
      have z3 := box_below DD HY.out.2.1 (lt_of_block HY.out.2.1)
      have z4 := box_below DD HY.out.2.2.1 (lt_of_block HY.out.2.2.1)
      have z5 := box_below DD HY.out.2.2.2.1 (lt_of_block HY.out.2.2.2.1)
      have z6 := box_below DD HY.out.2.2.2.2 (lt_of_block HY.out.2.2.2.2)
      have C2 := chain2 C1 DD
      have m1 := m1.below DD
      have m2 := m2.below DD
      clear f0 f1 f2 f3 Nq1 Nr1 Nb1 F1 F2 F3 HY hb2 B0 HS C1
      have f0 := two_cell0 z5
      have f1 := two_cell1 z5
      have f2 := two_cell0 z6
      have f3 := two_cell1 z6
      have g0 := two_cell0 z3
      have g1 := two_cell1 z3
      have g2 := two_free (k := 0) z3
      have g3 := two_free (k := 1) z3
      have g4 := two_cell0 z4
      have g5 := two_cell1 z4
      have g6 := two_free (k := 0) z4
      have g7 := two_free (k := 1) z4
      obtain ⟨o1, o2, o3, o4, o5, o6, o7⟩ := sdiv_out C2 (show w.heap.size ≤ w.heap.size + 1 + 1 by omega) (show w.heap.size ≤ w.heap.size + 1 + 1 + 1 by omega) (by omega) z3 z4 m1 m2 _ rfl (x1 := .bool d1) (x2 := .bool d2)
      have HO := hid (And.intro o1 (And.intro o2 o3))
      have HC := hid (And.intro o4 (And.intro o5 (And.intro o6 o7)))
      clear o1 o2 o3 o4 o5 o6 o7
      have ne1 : w1.heap.size ≠ w.heap.size + 1 + 1 := by omega
      have ne2 : w1.heap.size ≠ w.heap.size + 1 + 1 + 1 := by omega
      have ne3 : w1.heap.size + 1 ≠ w.heap.size + 1 + 1 := by omega
      have ne4 : w1.heap.size + 1 ≠ w.heap.size + 1 + 1 + 1 := by omega
      go_wp2
      go_region
      all_goals
        clear f0 f1 f2 f3 g0 g1 g2 g3 g4 g5 g6 g7
        generalize ((((w2.setCell ⟨w.heap.size + 1 + 1, 0, none⟩ (Value.bool d1)).setCell ⟨w.heap.size + 1 + 1, 1, none⟩ (Value.slice p1 l1 c1)).setCell ⟨w.heap.size + 1 + 1 + 1, 0, none⟩ (Value.bool d2)).setCell ⟨w.heap.size + 1 + 1 + 1, 1, none⟩ (Value.slice p2 l2 c2)) = Z at *
        have HC' : Hid (Z.drew.cell? ⟨w.heap.size + 1 + 1, 0, none⟩ = some (Value.bool d1) ∧ Z.drew.cell? ⟨w.heap.size + 1 + 1, 1, none⟩ = some (Value.slice p1 l1 c1) ∧ Z.drew.cell? ⟨w.heap.size + 1 + 1 + 1, 0, none⟩ = some (Value.bool d2) ∧ Z.drew.cell? ⟨w.heap.size + 1 + 1 + 1, 1, none⟩ = some (Value.slice p2 l2 c2)) := HC
        go_wp2
        refine bodyPost_ret (v := .tuple #[.agg #[.bool d1, .slice p1 l1 c1], .agg #[.bool d2, .slice p2 l2 c2], .int .i64 0]) (by simp [results, Tryz.results38, go_sem, HC'.out.1, HC'.out.2.1, HC'.out.2.2.1, HC'.out.2.2.2]) rfl ⟨⟨_, _, rfl, ⟨p1, l1, c1, by rw [HE.out.1, HD.out.1], by rw [HE.out.1]; exact (HO.out.1.below (Below.refl _ _).drew).mono (by omega)⟩, ⟨p2, l2, c2, by rw [HE.out.2, HD.out.2], by rw [HE.out.2]; exact (HO.out.2.1.below (Below.refl _ _).drew).mono (by omega)⟩⟩, HO.out.2.2.drew⟩
  · obtain ⟨S1, hs1⟩ : ∃ S1, signZ (x.tmod y) = S1 := ⟨_, rfl⟩
    obtain ⟨S2, hs2⟩ : ∃ S2, signZ y = S2 := ⟨_, rfl⟩
    have hS0 : S1 ≠ 0 := by rw [← hs1]; exact signZ_ne hr0
    have hS1 : (S1 == 0) = false := beq_eq_false_iff_ne.2 hS0
    have hS2 : (S1 != 0) = true := bne_iff_ne.2 hS0
    have F4 := hid (F3.out hr0)
    have HS1 := hid hs1
    have HS2 := hid hs2
    have HR0 := hid hr0
    clear hs1 hs2 hr0
    go_region_held3 (fun w' => w'.cell? ⟨w1.heap.size + 1, 0, none⟩ = some (.bool d2) ∧ w'.cell? ⟨w1.heap.size + 1, 1, none⟩ = some (.slice p2 l2 c2) ∧ w'.cell? ⟨w.heap.size + 1, 0, none⟩ = some (.bool b') ∧ w'.cell? ⟨w.heap.size + 1, 1, none⟩ = some (.slice ab lb cb)) ((refine keepN f0 f1 f2 f3 ?_; first | exact B0 | exact B1 | exact B2 | exact B3)) (first
      | (have gg := B2; go_at_call 46; refine (ssign_any _ _ _ K (by omega) (Nb1.below B2)).mono ?_; rintro e w4 ⟨rfl, hb4⟩; have B3 := chain2 B2 hb4; rw [HS2.out])
      | (have gg := B1; go_at_call 46; refine (ssign_any _ _ _ K (by omega) (Nr1.below B1)).mono ?_; rintro e w3 ⟨rfl, hb3⟩; have B2 := chain2 B1 hb3; rw [HS1.out])
      | (have gg := B0; go_at_call 46; refine (ssign_any _ _ _ K (by omega) (Nr1.below B0)).mono ?_; rintro e w2 ⟨rfl, hb2⟩; have B1 := chain2 B0 hb2; rw [HS1.out]))
    by_cases hss : S1 = S2
    · have HE := hid (F1.out (Or.inl (F4.out.1 (by rw [HS1.out, HS2.out]; exact hss))))
      have hne : (S1 != S2) = false := by rw [hss]; simp
      have z2 := box_below B3 HY.out.1 (lt_of_block HY.out.1)
      have z3 := box_below B3 HY.out.2.1 (lt_of_block HY.out.2.1)
      have z4 := box_below B3 HY.out.2.2.1 (lt_of_block HY.out.2.2.1)
      have z5 := box_below B3 HY.out.2.2.2.1 (lt_of_block HY.out.2.2.2.1)
      have z6 := box_below B3 HY.out.2.2.2.2 (lt_of_block HY.out.2.2.2.2)
      have C2 := chain2 C1 B3
      have m1 := m1.below B3
      have m2 := m2.below B3
      clear f0 f1 f2 f3 Nq1 Nr1 Nb1 F1 F2 F3 F4 HY hb2 hb3 hb4 B0 B1 B2 HS1 HS2 C1
      have f0 := two_cell0 z5
      have f1 := two_cell1 z5
      have f2 := two_cell0 z6
      have f3 := two_cell1 z6
      have g0 := two_cell0 z3
      have g1 := two_cell1 z3
      have g2 := two_free (k := 0) z3
      have g3 := two_free (k := 1) z3
      have g4 := two_cell0 z4
      have g5 := two_cell1 z4
      have g6 := two_free (k := 0) z4
      have g7 := two_free (k := 1) z4
      obtain ⟨o1, o2, o3, o4, o5, o6, o7⟩ := sdiv_out C2 (show w.heap.size ≤ w.heap.size + 1 + 1 by omega) (show w.heap.size ≤ w.heap.size + 1 + 1 + 1 by omega) (by omega) z3 z4 m1 m2 _ rfl (x1 := .bool d1) (x2 := .bool d2)
      have HO := hid (And.intro o1 (And.intro o2 o3))
      have HC := hid (And.intro o4 (And.intro o5 (And.intro o6 o7)))
      clear o1 o2 o3 o4 o5 o6 o7
      have ne1 : w1.heap.size ≠ w.heap.size + 1 + 1 := by omega
      have ne2 : w1.heap.size ≠ w.heap.size + 1 + 1 + 1 := by omega
      have ne3 : w1.heap.size + 1 ≠ w.heap.size + 1 + 1 := by omega
      have ne4 : w1.heap.size + 1 ≠ w.heap.size + 1 + 1 + 1 := by omega
      go_wp2
      go_region
      all_goals
        clear f0 f1 f2 f3 g0 g1 g2 g3 g4 g5 g6 g7
        generalize ((((w4.setCell ⟨w.heap.size + 1 + 1, 0, none⟩ (Value.bool d1)).setCell ⟨w.heap.size + 1 + 1, 1, none⟩ (Value.slice p1 l1 c1)).setCell ⟨w.heap.size + 1 + 1 + 1, 0, none⟩ (Value.bool d2)).setCell ⟨w.heap.size + 1 + 1 + 1, 1, none⟩ (Value.slice p2 l2 c2)) = Z at *
        have HC' : Hid (Z.drew.cell? ⟨w.heap.size + 1 + 1, 0, none⟩ = some (Value.bool d1) ∧ Z.drew.cell? ⟨w.heap.size + 1 + 1, 1, none⟩ = some (Value.slice p1 l1 c1) ∧ Z.drew.cell? ⟨w.heap.size + 1 + 1 + 1, 0, none⟩ = some (Value.bool d2) ∧ Z.drew.cell? ⟨w.heap.size + 1 + 1 + 1, 1, none⟩ = some (Value.slice p2 l2 c2)) := HC
        go_wp2
        refine bodyPost_ret (v := .tuple #[.agg #[.bool d1, .slice p1 l1 c1], .agg #[.bool d2, .slice p2 l2 c2], .int .i64 0]) (by simp [results, Tryz.results38, go_sem, HC'.out.1, HC'.out.2.1, HC'.out.2.2.1, HC'.out.2.2.2]) rfl ⟨⟨_, _, rfl, ⟨p1, l1, c1, by rw [HE.out.1, HD.out.1], by rw [HE.out.1]; exact (HO.out.1.below (Below.refl _ _).drew).mono (by omega)⟩, ⟨p2, l2, c2, by rw [HE.out.2, HD.out.2], by rw [HE.out.2]; exact (HO.out.2.1.below (Below.refl _ _).drew).mono (by omega)⟩⟩, HO.out.2.2.drew⟩
    · have HE := hid (F2.out (fun h => hss (by have := F4.out.2 h; rw [HS1.out, HS2.out] at this; exact this)) HR0.out)
      have hne : (S1 != S2) = true := bne_iff_ne.2 hss
      have z2 := box_below B3 HY.out.1 (lt_of_block HY.out.1)
      have z3 := box_below B3 HY.out.2.1 (lt_of_block HY.out.2.1)
      have z4 := box_below B3 HY.out.2.2.1 (lt_of_block HY.out.2.2.1)
      have z5 := box_below B3 HY.out.2.2.2.1 (lt_of_block HY.out.2.2.2.1)
      have z6 := box_below B3 HY.out.2.2.2.2 (lt_of_block HY.out.2.2.2.2)
      have C2 := chain2 C1 B3
      have Nq2 := Nq1.below B3
      have Nr2 := Nr1.below B3
      have Nb2 := Nb1.below B3
      clear f0 f1 f2 f3 Nq1 Nr1 Nb1 F1 F2 F3 F4 HY hb2 hb3 hb4 B0 B1 B2 HS1 HS2 C1 m1 m2 B3 gg
      have f0 := two_cell0 z5
      have f1 := two_cell1 z5
      have f2 := two_cell0 z6
      have f3 := two_cell1 z6
      have f4 := two_cell0 z2
      have f5 := two_cell1 z2
      have HZ := hid (And.intro z3 z4)
      have ne1 : w1.heap.size ≠ w.heap.size + 1 + 1 := by omega
      have ne2 : w1.heap.size ≠ w.heap.size + 1 + 1 + 1 := by omega
      have ne3 : w1.heap.size + 1 ≠ w.heap.size + 1 + 1 := by omega
      have ne4 : w1.heap.size + 1 ≠ w.heap.size + 1 + 1 + 1 := by omega
      obtain ⟨Q, hQ⟩ : ∃ Q, x.fdiv y = Q := ⟨_, rfl⟩
      obtain ⟨R, hR⟩ : ∃ R, x.fmod y = R := ⟨_, rfl⟩
      have HQ := hid (And.intro hQ hR)
      have hQ1 : x.tdiv y - 1 = Q := by rw [← hQ]; exact HE.out.1.symm
      have hR1 : x.tmod y + y = R := by rw [← hR]; exact HE.out.2.symm
      have HQ1 := hid hQ1
      have HR1 := hid hR1
      clear hQ hR hQ1 hR1 z2 z3 z4 z5 z6 HE
      skip
      skip
      go_wp2
      have E0 : Below w4.heap.size w4 w4.drew := (Below.refl _ _).drew
      go_region_held3 (fun w' => w'.cell? ⟨w1.heap.size, 0, none⟩ = some (.bool d1) ∧ w'.cell? ⟨w1.heap.size, 1, none⟩ = some (.slice p1 l1 c1) ∧ w'.cell? ⟨w1.heap.size + 1, 0, none⟩ = some (.bool d2) ∧ w'.cell? ⟨w1.heap.size + 1, 1, none⟩ = some (.slice p2 l2 c2) ∧ w'.cell? ⟨w.heap.size + 1, 0, none⟩ = some (.bool b') ∧ w'.cell? ⟨w.heap.size + 1, 1, none⟩ = some (.slice ab lb cb)) ((first | exact ⟨f0, f1, f2, f3, f4, f5⟩ | exact K1 | exact K2 | exact K3 | exact K4 | exact K5)) (first
        | (have gk := E2; go_at_call 47; refine (sadd_any _ _ _ _ _ K K (by omega) (by omega) (Nr2.below E2) (Nb2.below E2)).mono ?_; rintro e w7 ⟨v3, rfl, n3, hb7⟩; have E3 := chain2 E2 hb7; rw [HR1.out] at n3; obtain ⟨a3, l3, c3, rfl, m3⟩ := n3; have m0 := m0.below hb7; have K3 := keepF f0 f1 f2 f3 f4 f5 E3; have y1 := box_below E3 HZ.out.1 (lt_of_block HZ.out.1); have y2 := box_below E3 HZ.out.2 (lt_of_block HZ.out.2); have u0 := two_cell0 y1; have u1 := two_cell1 y1; have v0 := two_free (k := 0) y1; have v1 := two_free (k := 1) y1; have y3 := box_set2 y2 (show w.heap.size + 1 + 1 + 1 ≠ w.heap.size + 1 + 1 by omega) (.bool (decide (Q < 0))) (.slice a2 l2' c2'); have u2 := two_cell0 y3; have u3 := two_cell1 y3; have v2 := two_free (k := 0) y3; have v3 := two_free (k := 1) y3; have K4 := keepF2 K3 ne1 ne3 (show w.heap.size + 1 ≠ w.heap.size + 1 + 1 by omega) (.bool (decide (Q < 0))) (.slice a2 l2' c2'); have K5 := keepF2 K4 ne2 ne4 (show w.heap.size + 1 ≠ w.heap.size + 1 + 1 + 1 by omega) (.bool (decide (R < 0))) (.slice a3 l3 c3))
        | (have gk := E1; go_at_call 72; refine (ssub_any _ _ _ _ _ K 3 (by omega) (by omega) (Nq2.below E1) n1).mono ?_; rintro e w6 ⟨v2, rfl, n2, hb6⟩; have E2 := chain2 E1 hb6; rw [HQ1.out] at n2; obtain ⟨a2, l2', c2', rfl, m0⟩ := n2; have K2 := keepF f0 f1 f2 f3 f4 f5 E2)
        | (have gk := E0; go_at_call 42; refine (sof_any _ 1 (by omega) (by omega)).mono ?_; rintro e w5 ⟨v1, rfl, n1, hb5⟩; have E1 := chain2 E0 hb5; have K1 := keepF f0 f1 f2 f3 f4 f5 E1))
      obtain ⟨o1, o2, o3, o4, o5, o6, o7⟩ := sdiv_out (chain2 C2 E3) (show w.heap.size ≤ w.heap.size + 1 + 1 by omega) (show w.heap.size ≤ w.heap.size + 1 + 1 + 1 by omega) (by omega) y1 y2 m0 m3 _ rfl (x1 := .bool (decide (Q < 0))) (x2 := .bool (decide (R < 0)))
      have HO := hid (And.intro o1 (And.intro o2 o3))
      have HC := hid (And.intro o4 (And.intro o5 (And.intro o6 o7)))
      clear o1 o2 o3 o4 o5 o6 o7 y1 y2 y3 u0 u1 u2 u3 v0 v1 v2 v3 K1 K2 K3 K4 K5 m0 m3 f0 f1 f2 f3 f4 f5 hb5 hb6 hb7 E1 E2 E3
      generalize ((((w7.setCell ⟨w.heap.size + 1 + 1, 0, none⟩ (Value.bool (decide (Q < 0)))).setCell ⟨w.heap.size + 1 + 1, 1, none⟩ (Value.slice a2 l2' c2')).setCell ⟨w.heap.size + 1 + 1 + 1, 0, none⟩ (Value.bool (decide (R < 0)))).setCell ⟨w.heap.size + 1 + 1 + 1, 1, none⟩ (Value.slice a3 l3 c3)) = X at *
      go_wp2
      exact bodyPost_ret (v := .tuple #[.agg #[.bool (decide (Q < 0)), .slice a2 l2' c2'], .agg #[.bool (decide (R < 0)), .slice a3 l3 c3], .int .i64 0]) (by simp [results, Tryz.results38, go_sem, HC.out.1, HC.out.2.1, HC.out.2.2.1, HC.out.2.2.2]) rfl ⟨⟨_, _, rfl, by rw [HQ.out.1]; exact ⟨a2, l2', c2', rfl, HO.out.1.mono (by omega)⟩, by rw [HQ.out.2]; exact ⟨a3, l3, c3, rfl, HO.out.2.1.mono (by omega)⟩⟩, HO.out.2.2⟩
end Go.Proofs.YtjldlmonccgopaaGreatDoor
