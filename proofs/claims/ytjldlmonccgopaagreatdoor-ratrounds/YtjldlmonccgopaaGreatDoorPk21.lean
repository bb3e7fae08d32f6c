/- NFloor, NQuo, Gcd. -/
import Derived.Test.YtjldlmonccgopaaGreatDoorPk20
import Derived.Test.YtjldlmonccgopaaGreatDoorPk7
/- Whole numbers: the quotient that is rounded down. -/
namespace Go.Proofs.YtjldlmonccgopaaGreatDoor
open Go.RowKit
set_option linter.unusedVariables false
set_option maxRecDepth 100000
set_option linter.unusedSimpArgs false
attribute [local go_sem ↓] Go.wp_at_zero Go.wp_at_succ

theorem signZ_ne {y : Int} (h : y ≠ 0) : signZ y ≠ 0 := by
  unfold signZ
  repeat' split
  all_goals omega
theorem keepF {W X : World} {p q r : Nat} {a b c d e f : Value} (h1 : W.cell? ⟨p, 0, none⟩ = some a) (h2 : W.cell? ⟨p, 1, none⟩ = some b) (h3 : W.cell? ⟨q, 0, none⟩ = some c) (h4 : W.cell? ⟨q, 1, none⟩ = some d) (h5 : W.cell? ⟨r, 0, none⟩ = some e) (h6 : W.cell? ⟨r, 1, none⟩ = some f) (h : Below W.heap.size W X) :
    X.cell? ⟨p, 0, none⟩ = some a ∧ X.cell? ⟨p, 1, none⟩ = some b ∧ X.cell? ⟨q, 0, none⟩ = some c ∧ X.cell? ⟨q, 1, none⟩ = some d ∧ X.cell? ⟨r, 0, none⟩ = some e ∧ X.cell? ⟨r, 1, none⟩ = some f := ⟨kc h h1, kc h h2, kc h h3, kc h h4, kc h h5, kc h h6⟩
theorem keepF2 {X : World} {p q r s : Nat} {a b c d e f : Value} (h : X.cell? ⟨p, 0, none⟩ = some a ∧ X.cell? ⟨p, 1, none⟩ = some b ∧ X.cell? ⟨q, 0, none⟩ = some c ∧ X.cell? ⟨q, 1, none⟩ = some d ∧ X.cell? ⟨r, 0, none⟩ = some e ∧ X.cell? ⟨r, 1, none⟩ = some f) (h1 : p ≠ s) (h2 : q ≠ s) (h3 : r ≠ s) (u v : Value) :
    ((X.setCell ⟨s, 0, none⟩ u).setCell ⟨s, 1, none⟩ v).cell? ⟨p, 0, none⟩ = some a ∧ ((X.setCell ⟨s, 0, none⟩ u).setCell ⟨s, 1, none⟩ v).cell? ⟨p, 1, none⟩ = some b ∧ ((X.setCell ⟨s, 0, none⟩ u).setCell ⟨s, 1, none⟩ v).cell? ⟨q, 0, none⟩ = some c ∧ ((X.setCell ⟨s, 0, none⟩ u).setCell ⟨s, 1, none⟩ v).cell? ⟨q, 1, none⟩ = some d ∧ ((X.setCell ⟨s, 0, none⟩ u).setCell ⟨s, 1, none⟩ v).cell? ⟨r, 0, none⟩ = some e ∧ ((X.setCell ⟨s, 0, none⟩ u).setCell ⟨s, 1, none⟩ v).cell? ⟨r, 1, none⟩ = some f :=
  ⟨two_keep0 h.1 h1 _ _, two_keep0 h.2.1 h1 _ _, two_keep0 h.2.2.1 h2 _ _, two_keep0 h.2.2.2.1 h2 _ _, two_keep0 h.2.2.2.2.1 h3 _ _, two_keep0 h.2.2.2.2.2 h3 _ _⟩
theorem fdiv_same {x y : Int} (h0 : y ≠ 0) (h : decide (x < 0) = decide (y < 0) ∨ x.tmod y = 0) : x.fdiv y = x.tdiv y ∧ x.fmod y = x.tmod y := by
  have e := Int.tmod_add_mul_tdiv x y
  have hl := Int.natAbs_tmod x y
  have hlt : (x.tmod y).natAbs < y.natAbs := by rw [hl]; exact Nat.mod_lt _ (by omega)
  have hs : 0 ≤ x → 0 ≤ x.tmod y := fun h => Int.tmod_nonneg y h
  have hs' : x < 0 → x.tmod y ≤ 0 := fun h => by
    have := Int.tmod_nonneg (a := -x) y (by omega)
    rw [Int.neg_tmod] at this; omega
  generalize x.tmod y = r at *
  generalize x.tdiv y = q at *
  rcases Int.lt_or_le y 0 with hy | hy
  · refine (Int.fdiv_fmod_unique' hy).2 ⟨e, ?_, ?_⟩
    · omega
    · rcases h with h | h
      · have : x < 0 := of_decide_eq_true (h.trans (decide_eq_true hy))
        have := hs' this; omega
      · omega
  · refine (Int.fdiv_fmod_unique (by omega)).2 ⟨e, ?_, ?_⟩
    · rcases h with h | h
      · have : ¬ x < 0 := of_decide_eq_false (h.trans (decide_eq_false (by omega)))
        exact hs (by omega)
      · omega
    · omega
theorem fdiv_less {x y : Int} (h0 : y ≠ 0) (h : ¬ (decide (x < 0) = decide (y < 0))) (h' : x.tmod y ≠ 0) : x.fdiv y = x.tdiv y - 1 ∧ x.fmod y = x.tmod y + y := by
  have e := Int.tmod_add_mul_tdiv x y
  have hl := Int.natAbs_tmod x y
  have hlt : (x.tmod y).natAbs < y.natAbs := by rw [hl]; exact Nat.mod_lt _ (by omega)
  have hs : 0 ≤ x → 0 ≤ x.tmod y := fun h => Int.tmod_nonneg y h
  have hs' : x < 0 → x.tmod y ≤ 0 := fun h => by
    have := Int.tmod_nonneg (a := -x) y (by omega)
    rw [Int.neg_tmod] at this; omega
  have e2 : x.tmod y + y + y * (x.tdiv y - 1) = x := by rw [Int.mul_sub, Int.mul_one]; omega
  generalize x.tmod y = r at *
  generalize x.tdiv y = q at *
  rcases Int.lt_or_le y 0 with hy | hy
  · have hx : 0 ≤ x := by
      rcases Int.lt_or_le x 0 with hx | hx
      · exact absurd ((decide_eq_true hx).trans (decide_eq_true hy).symm) h
      · exact hx
    have := hs hx
    exact (Int.fdiv_fmod_unique' hy).2 ⟨e2, by omega, by omega⟩
  · have hx : x < 0 := by
      rcases Int.lt_or_le x 0 with hx | hx
      · exact hx
      · exact absurd ((decide_eq_false (by omega)).trans (decide_eq_false (by omega)).symm) h
    have := hs' hx
    exact (Int.fdiv_fmod_unique (by omega)).2 ⟨e2, by omega, by omega⟩
set_option maxHeartbeats 2000000 in
theorem nfloored_any (w : World) (a b : Value) (x y : Int) (K : Nat) (hK : K ≤ 400000000) (ha : NumIs w a x K) (hb : NumIs w b y K) (h0 : y ≠ 0) :
    Calls Tryz.prog 62 #[a, b] w fun e w' => (∃ q r, e = .returned (.tuple #[q, r]) ∧ NumIs w' q (x.fdiv y) (K + 3) ∧ NumIs w' r (x.fmod y) (K + 1)) ∧ Below w.heap.size w w' := by
  obtain ⟨aa, la, ca, rfl, na0⟩ := ha
  obtain ⟨ab, lb, cb, rfl, nb0⟩ := hb
  have Na : NumIs w (.agg #[.slice aa la ca, .bool (decide (x < 0))]) x K := ⟨aa, la, ca, rfl, na0⟩
  have Nb : NumIs w (.agg #[.slice ab lb cb, .bool (decide (y < 0))]) y K := ⟨ab, lb, cb, rfl, nb0⟩
  have F1 := hid (fdiv_same (x := x) h0)
  have F2 := hid (fdiv_less (x := x) h0)
  generalize decide (x < 0) = b at *
  generalize decide (y < 0) = b' at *
  obtain ⟨hB, hx, hz, hy, hy', s4⟩ := boxed4 w (Obj.cells #[.slice aa la ca, .bool b] 27) (Obj.cells #[.slice ab lb cb, .bool b'] 27) (Obj.cells #[.slice none 0 0, .bool false] 27) (Obj.cells #[.slice none 0 0, .bool false] 27)
  go_enter Tryz.func62, Tryz.ntmps62
  go_wp2_with fail
  generalize (((w.alloc (Obj.cells #[.slice aa la ca, .bool b] 27)).alloc (Obj.cells #[.slice ab lb cb, .bool b'] 27)).alloc (Obj.cells #[.slice none 0 0, .bool false] 27)).alloc (Obj.cells #[.slice none 0 0, .bool false] 27) = W at *
  refine (ncut_any W _ _ x y K hK (Na.below hB) (Nb.below hB) h0).mono ?_
  rintro e w1 ⟨⟨q, r, rfl, nq, nr⟩, hb1⟩
  have Nq := nq
  have Nr := nr
  obtain ⟨p1, l1, c1, rfl, m1⟩ := nq
  obtain ⟨p2, l2, c2, rfl, m2⟩ := nr
  have hbx := hb1.size
  obtain ⟨d1, hd1⟩ : ∃ d1, decide (x.tdiv y < 0) = d1 := ⟨_, rfl⟩
  obtain ⟨d2, hd2⟩ : ∃ d2, decide (x.tmod y < 0) = d2 := ⟨_, rfl⟩
  rw [hd1, hd2]
  rw [hd1] at Nq
  rw [hd2] at Nr
  have X1 := boxed2 hb1 (Obj.cells #[.slice p1 l1 c1, .bool d1] 27) (Obj.cells #[.slice p2 l2 c2, .bool d2] 27)
  have Y1 := boxed2 (Below.refl w1.heap.size w1) (Obj.cells #[.slice p1 l1 c1, .bool d1] 27) (Obj.cells #[.slice p2 l2 c2, .bool d2] 27)
  have bq := boxed2_first w1 (Obj.cells #[.slice p1 l1 c1, .bool d1] 27) (Obj.cells #[.slice p2 l2 c2, .bool d2] 27)
  have br := boxed2_second w1 (Obj.cells #[.slice p1 l1 c1, .bool d1] 27) (Obj.cells #[.slice p2 l2 c2, .bool d2] 27)
  have hx1 := box_below X1 hx (by omega)
  have hz1 := box_below X1 hz (by omega)
  have hy1 := box_below X1 hy (by omega)
  have hy1' := box_below X1 hy' (by omega)
  have C1 := chain2 hB X1
  have Nq1 := Nq.below Y1
  have Nr1 := Nr.below Y1
  have Nb1 := Nb.below C1
  have HD := hid (And.intro hd1 hd2)
  have HY := hid (And.intro hx1 (And.intro hz1 (And.intro hy1 (And.intro hy1' (And.intro bq br)))))
  clear hd1 hd2 hx hz hy hy' hx1 hz1 hy1 hy1' bq br X1 hb1 hB Nq Nr na0 nb0 Na Nb
  have t2 := two_cell1 HY.out.1
  have t4 := two_cell1 HY.out.2.1
  by_cases hb0 : b = b'
  · subst hb0
    have HE := hid (F1.out (Or.inl rfl))
    have m1 := m1.below Y1
    have m2 := m2.below Y1
    obtain ⟨_, _, z3, z4, z5, z6⟩ := HY.out
    clear HY F1 F2 Nq1 Nr1 Nb1 Y1
    go_wp2
    generalize (w1.alloc (Obj.cells #[.slice p1 l1 c1, .bool d1] 27)).alloc (Obj.cells #[.slice p2 l2 c2, .bool d2] 27) = XX at *
    clear t2 t4
    have f0 := two_cell0 z5
    have f1 := two_cell1 z5
    have f2 := two_cell0 z6
    have f3 := two_cell1 z6
    have g0 := two_cell0 z3
    have g1 := two_cell1 z3
    have g2 := two_free (k := 0) z3
    have g3 := two_free (k := 1) z3
    have g4 := two_cell0 z4
    have g5 := two_cell1 z4
    have g6 := two_free (k := 0) z4
    have g7 := two_free (k := 1) z4
    obtain ⟨o1, o2, o3, o4, o5, o6, o7⟩ := ndiv_out C1 (show w.heap.size ≤ w.heap.size + 1 + 1 by omega) (show w.heap.size ≤ w.heap.size + 1 + 1 + 1 by omega) (by omega) z3 z4 m1 m2 _ rfl (x1 := .bool d1) (x2 := .bool d2)
    have HO := hid (And.intro o1 (And.intro o2 o3))
    have HC := hid (And.intro o4 (And.intro o5 (And.intro o6 o7)))
    clear o1 o2 o3 o4 o5 o6 o7
    have ne1 : w1.heap.size ≠ w.heap.size + 1 + 1 := by omega
    have ne2 : w1.heap.size ≠ w.heap.size + 1 + 1 + 1 := by omega
    have ne3 : w1.heap.size + 1 ≠ w.heap.size + 1 + 1 := by omega
    have ne4 : w1.heap.size + 1 ≠ w.heap.size + 1 + 1 + 1 := by omega
    go_region
    all_goals
      clear f0 f1 f2 f3 g0 g1 g2 g3 g4 g5 g6 g7
      generalize ((((XX.setCell ⟨w.heap.size + 1 + 1, 0, none⟩ (Value.slice p1 l1 c1)).setCell ⟨w.heap.size + 1 + 1, 1, none⟩ (Value.bool d1)).setCell ⟨w.heap.size + 1 + 1 + 1, 0, none⟩ (Value.slice p2 l2 c2)).setCell ⟨w.heap.size + 1 + 1 + 1, 1, none⟩ (Value.bool d2)) = Z at *
      have HC' : Hid (Z.drew.cell? ⟨w.heap.size + 1 + 1, 0, none⟩ = some (Value.slice p1 l1 c1) ∧ Z.drew.cell? ⟨w.heap.size + 1 + 1, 1, none⟩ = some (Value.bool d1) ∧ Z.drew.cell? ⟨w.heap.size + 1 + 1 + 1, 0, none⟩ = some (Value.slice p2 l2 c2) ∧ Z.drew.cell? ⟨w.heap.size + 1 + 1 + 1, 1, none⟩ = some (Value.bool d2)) := HC
      go_wp2
      refine bodyPost_ret (v := .tuple #[.agg #[.slice p1 l1 c1, .bool d1], .agg #[.slice p2 l2 c2, .bool d2]]) (by simp [results, Tryz.results62, go_sem, HC'.out.1, HC'.out.2.1, HC'.out.2.2.1, HC'.out.2.2.2]) rfl ⟨⟨_, _, rfl, ⟨p1, l1, c1, by rw [HE.out.1, HD.out.1], by rw [HE.out.1]; exact (HO.out.1.below (Below.refl _ _).drew).mono (by omega)⟩, ⟨p2, l2, c2, by rw [HE.out.2, HD.out.2], by rw [HE.out.2]; exact (HO.out.2.1.below (Below.refl _ _).drew).mono (by omega)⟩⟩, HO.out.2.2.drew⟩
  · go_wp2_with fail
    obtain ⟨_, z2, z3, z4, z5, z6⟩ := HY.out
    have m1 := m1.below Y1
    have m2 := m2.below Y1
    clear Y1 t2 t4
    generalize (w1.alloc (Obj.cells #[.slice p1 l1 c1, .bool d1] 27)).alloc (Obj.cells #[.slice p2 l2 c2, .bool d2] 27) = XX at *
    refine (nsign_any XX _ _ K (by omega) Nr1).mono ?_
    rintro e w2 ⟨rfl, hb2⟩
    have z2 := box_below hb2 z2 (lt_of_block z2)
    have z3 := box_below hb2 z3 (lt_of_block z3)
    have z4 := box_below hb2 z4 (lt_of_block z4)
    have z5 := box_below hb2 z5 (lt_of_block z5)
    have z6 := box_below hb2 z6 (lt_of_block z6)
    have C2 := chain2 C1 hb2
    have Nq2 := Nq1.below hb2
    have Nr2 := Nr1.below hb2
    have Nb2 := Nb1.below hb2
    have m1 := m1.below hb2
    have m2 := m2.below hb2
    clear HY Nq1 Nr1 Nb1 C1 hb2
    by_cases hr0 : x.tmod y = 0
    · have HE := hid (F1.out (Or.inr hr0))
      rw [show signZ (x.tmod y) = 0 by rw [hr0]; rfl]
      clear F1 F2 Nq2 Nr2 Nb2
      go_wp2
      have f0 := two_cell0 z5
      have f1 := two_cell1 z5
      have f2 := two_cell0 z6
      have f3 := two_cell1 z6
      have g0 := two_cell0 z3
      have g1 := two_cell1 z3
      have g2 := two_free (k := 0) z3
      have g3 := two_free (k := 1) z3
      have g4 := two_cell0 z4
      have g5 := two_cell1 z4
      have g6 := two_free (k := 0) z4
      have g7 := two_free (k := 1) z4
      obtain ⟨o1, o2, o3, o4, o5, o6, o7⟩ := ndiv_out C2 (show w.heap.size ≤ w.heap.size + 1 + 1 by omega) (show w.heap.size ≤ w.heap.size + 1 + 1 + 1 by omega) (by omega) z3 z4 m1 m2 _ rfl (x1 := .bool d1) (x2 := .bool d2)
      have HO := hid (And.intro o1 (And.intro o2 o3))
      have HC := hid (And.intro o4 (And.intro o5 (And.intro o6 o7)))
      clear o1 o2 o3 o4 o5 o6 o7
      have ne1 : w1.heap.size ≠ w.heap.size + 1 + 1 := by omega
      have ne2 : w1.heap.size ≠ w.heap.size + 1 + 1 + 1 := by omega
      have ne3 : w1.heap.size + 1 ≠ w.heap.size + 1 + 1 := by omega
      have ne4 : w1.heap.size + 1 ≠ w.heap.size + 1 + 1 + 1 := by omega
      go_region
      all_goals
        clear f0 f1 f2 f3 g0 g1 g2 g3 g4 g5 g6 g7
        generalize ((((w2.setCell ⟨w.heap.size + 1 + 1, 0, none⟩ (Value.slice p1 l1 c1)).setCell ⟨w.heap.size + 1 + 1, 1, none⟩ (Value.bool d1)).setCell ⟨w.heap.size + 1 + 1 + 1, 0, none⟩ (Value.slice p2 l2 c2)).setCell ⟨w.heap.size + 1 + 1 + 1, 1, none⟩ (Value.bool d2)) = Z at *
        have HC' : Hid (Z.drew.cell? ⟨w.heap.size + 1 + 1, 0, none⟩ = some (Value.slice p1 l1 c1) ∧ Z.drew.cell? ⟨w.heap.size + 1 + 1, 1, none⟩ = some (Value.bool d1) ∧ Z.drew.cell? ⟨w.heap.size + 1 + 1 + 1, 0, none⟩ = some (Value.slice p2 l2 c2) ∧ Z.drew.cell? ⟨w.heap.size + 1 + 1 + 1, 1, none⟩ = some (Value.bool d2)) := HC
        go_wp2
        refine bodyPost_ret (v := .tuple #[.agg #[.slice p1 l1 c1, .bool d1], .agg #[.slice p2 l2 c2, .bool d2]]) (by simp [results, Tryz.results62, go_sem, HC'.out.1, HC'.out.2.1, HC'.out.2.2.1, HC'.out.2.2.2]) rfl ⟨⟨_, _, rfl, ⟨p1, l1, c1, by rw [HE.out.1, HD.out.1], by rw [HE.out.1]; exact (HO.out.1.below (Below.refl _ _).drew).mono (by omega)⟩, ⟨p2, l2, c2, by rw [HE.out.2, HD.out.2], by rw [HE.out.2]; exact (HO.out.2.1.below (Below.refl _ _).drew).mono (by omega)⟩⟩, HO.out.2.2.drew⟩
    · have HE := hid (F2.out hb0 hr0)
      obtain ⟨sg', hs⟩ : ∃ s, signZ (x.tmod y) = s := ⟨_, rfl⟩
      have hs0 : sg' ≠ 0 := by rw [← hs]; exact signZ_ne hr0
      rw [hs]
      clear F1 F2 hs m1 m2
      have f0 := two_cell0 z5
      have f1 := two_cell1 z5
      have f2 := two_cell0 z6
      have f3 := two_cell1 z6
      have f4 := two_cell0 z2
      have f5 := two_cell1 z2
      have HZ := hid (And.intro z3 z4)
      have ne1 : w1.heap.size ≠ w.heap.size + 1 + 1 := by omega
      have ne2 : w1.heap.size ≠ w.heap.size + 1 + 1 + 1 := by omega
      have ne3 : w1.heap.size + 1 ≠ w.heap.size + 1 + 1 := by omega
      have ne4 : w1.heap.size + 1 ≠ w.heap.size + 1 + 1 + 1 := by omega
      obtain ⟨Q, hQ⟩ : ∃ Q, x.fdiv y = Q := ⟨_, rfl⟩
      obtain ⟨R, hR⟩ : ∃ R, x.fmod y = R := ⟨_, rfl⟩
      have HQ := hid (And.intro hQ hR)
      have hQ1 : x.tdiv y - 1 = Q := by rw [← hQ]; exact HE.out.1.symm
      have hR1 : x.tmod y + y = R := by rw [← hR]; exact HE.out.2.symm
      have HQ1 := hid hQ1
      have HR1 := hid hR1
      clear hQ hR hQ1 hR1 z2 z3 z4 z5 z6 HE
      have hs1 : (sg' == 0) = false := beq_eq_false_iff_ne.2 hs0
      have hb1 : (b == b') = false := beq_eq_false_iff_ne.2 hb0
      go_wp2
      have B0 : Below w2.heap.size w2 w2.drew := (Below.refl _ _).drew
      go_region_held3 (fun w' => w'.cell? ⟨w1.heap.size, 0, none⟩ = some (.slice p1 l1 c1) ∧ w'.cell? ⟨w1.heap.size, 1, none⟩ = some (.bool d1) ∧ w'.cell? ⟨w1.heap.size + 1, 0, none⟩ = some (.slice p2 l2 c2) ∧ w'.cell? ⟨w1.heap.size + 1, 1, none⟩ = some (.bool d2) ∧ w'.cell? ⟨w.heap.size + 1, 0, none⟩ = some (.slice ab lb cb) ∧ w'.cell? ⟨w.heap.size + 1, 1, none⟩ = some (.bool b')) ((first | exact ⟨f0, f1, f2, f3, f4, f5⟩ | exact K1 | exact K2 | exact K3 | exact K4 | exact K5)) (first
        | (have gk := B2; go_at_call 26; refine (nadd_any _ _ _ _ _ K K (by omega) (by omega) (Nr2.below B2) (Nb2.below B2)).mono ?_; rintro e w5 ⟨v3, rfl, n3, hb5⟩; have B3 := chain2 B2 hb5; rw [HR1.out] at n3; obtain ⟨a3, l3, c3, rfl, m3⟩ := n3; have m0 := m0.below hb5; have K3 := keepF f0 f1 f2 f3 f4 f5 B3; have y1 := box_below B3 HZ.out.1 (lt_of_block HZ.out.1); have y2 := box_below B3 HZ.out.2 (lt_of_block HZ.out.2); have u0 := two_cell0 y1; have u1 := two_cell1 y1; have v0 := two_free (k := 0) y1; have v1 := two_free (k := 1) y1; have y3 := box_set2 y2 (show w.heap.size + 1 + 1 + 1 ≠ w.heap.size + 1 + 1 by omega) (.slice a2 l2' c2') (.bool (decide (Q < 0))); have u2 := two_cell0 y3; have u3 := two_cell1 y3; have v2 := two_free (k := 0) y3; have v3 := two_free (k := 1) y3; have K4 := keepF2 K3 ne1 ne3 (show w.heap.size + 1 ≠ w.heap.size + 1 + 1 by omega) (.slice a2 l2' c2') (.bool (decide (Q < 0))); have K5 := keepF2 K4 ne2 ne4 (show w.heap.size + 1 ≠ w.heap.size + 1 + 1 + 1 by omega) (.slice a3 l3 c3) (.bool (decide (R < 0))))
        | (have gk := B1; go_at_call 10; refine (nsub_any _ _ _ _ _ K 2 (by omega) (by omega) (Nq2.below B1) n1).mono ?_; rintro e w4 ⟨v2, rfl, n2, hb4⟩; have B2 := chain2 B1 hb4; rw [HQ1.out] at n2; obtain ⟨a2, l2', c2', rfl, m0⟩ := n2; have K2 := keepF f0 f1 f2 f3 f4 f5 B2)
        | (have gk := B0; go_at_call 11; refine (nof_any _ 1 (by omega) (by omega)).mono ?_; rintro e w3 ⟨v1, rfl, n1, hb3⟩; have B1 := chain2 B0 hb3; have K1 := keepF f0 f1 f2 f3 f4 f5 B1))
      obtain ⟨o1, o2, o3, o4, o5, o6, o7⟩ := ndiv_out (chain2 C2 B3) (show w.heap.size ≤ w.heap.size + 1 + 1 by omega) (show w.heap.size ≤ w.heap.size + 1 + 1 + 1 by omega) (by omega) y1 y2 m0 m3 _ rfl (x1 := .bool (decide (Q < 0))) (x2 := .bool (decide (R < 0)))
      have HO := hid (And.intro o1 (And.intro o2 o3))
      have HC := hid (And.intro o4 (And.intro o5 (And.intro o6 o7)))
      clear o1 o2 o3 o4 o5 o6 o7 y1 y2 y3 u0 u1 u2 u3 v0 v1 v2 v3 K1 K2 K3 K4 K5 m0 m3 f0 f1 f2 f3 f4 f5 hb3 hb4 hb5 B1 B2 B3
      generalize ((((w5.setCell ⟨w.heap.size + 1 + 1, 0, none⟩ (Value.slice a2 l2' c2')).setCell ⟨w.heap.size + 1 + 1, 1, none⟩ (Value.bool (decide (Q < 0)))).setCell ⟨w.heap.size + 1 + 1 + 1, 0, none⟩ (Value.slice a3 l3 c3)).setCell ⟨w.heap.size + 1 + 1 + 1, 1, none⟩ (Value.bool (decide (R < 0)))) = X at *
      go_wp2
      exact bodyPost_ret (v := .tuple #[.agg #[.slice a2 l2' c2', .bool (decide (Q < 0))], .agg #[.slice a3 l3 c3, .bool (decide (R < 0))]]) (by simp [results, Tryz.results62, go_sem, HC.out.1, HC.out.2.1, HC.out.2.2.1, HC.out.2.2.2]) rfl ⟨⟨_, _, rfl, by rw [HQ.out.1]; exact ⟨a2, l2', c2', rfl, HO.out.1.mono (by omega)⟩, by rw [HQ.out.2]; exact ⟨a3, l3, c3, rfl, HO.out.2.1.mono (by omega)⟩⟩, HO.out.2.2⟩
end Go.Proofs.YtjldlmonccgopaaGreatDoor
/- Whole numbers: both ways of dividing, kept from a divisor of 0. -/
namespace Go.Proofs.YtjldlmonccgopaaGreatDoor
open Go.RowKit
set_option linter.unusedVariables false
set_option maxRecDepth 100000
set_option linter.unusedSimpArgs false
attribute [local go_sem ↓] Go.wp_at_zero Go.wp_at_succ

set_option maxHeartbeats 2000000 in
theorem ndivided_cut (w : World) (aa ab : Option Addr) (la ca lb cb : Nat) (x y : Int) (K : Nat) (hK : K ≤ 400000000) (ha : NumIs w (.agg #[.slice aa la ca, .bool (decide (x < 0))]) x K) (hb : NumIs w (.agg #[.slice ab lb cb, .bool (decide (y < 0))]) y K) (h0 : y ≠ 0) :
    Calls Tryz.prog 61 #[.func (Fn.func 94) #[.agg #[.slice aa la ca, .bool (decide (x < 0))]] #[], .agg #[.slice ab lb cb, .bool (decide (y < 0))]] w fun e w' => (∃ q r, e = .returned (.tuple #[q, r, .int .i64 0]) ∧ NumIs w' q (x.tdiv y) K ∧ NumIs w' r (x.tmod y) K) ∧ Below w.heap.size w w' := by
  have HS := hid (signZ_ne h0)
  generalize decide (x < 0) = b at *
  generalize decide (y < 0) = b' at *
  have hx := boxed3_first w (Obj.cells #[.slice ab lb cb, .bool b'] 27) (Obj.cells #[.slice none 0 0, .bool false] 27) (Obj.cells #[.slice none 0 0, .bool false] 27)
  have hy := boxed3_second w (Obj.cells #[.slice ab lb cb, .bool b'] 27) (Obj.cells #[.slice none 0 0, .bool false] 27) (Obj.cells #[.slice none 0 0, .bool false] 27)
  have hy' := boxed3_third w (Obj.cells #[.slice ab lb cb, .bool b'] 27) (Obj.cells #[.slice none 0 0, .bool false] 27) (Obj.cells #[.slice none 0 0, .bool false] 27)
  have hB := boxed3 (Below.refl w.heap.size w) (Obj.cells #[.slice ab lb cb, .bool b'] 27) (Obj.cells #[.slice none 0 0, .bool false] 27) (Obj.cells #[.slice none 0 0, .bool false] 27)
  go_enter Tryz.func61, Tryz.ntmps61
  go_wp2_with fail
  generalize ((w.alloc (Obj.cells #[.slice ab lb cb, .bool b'] 27)).alloc (Obj.cells #[.slice none 0 0, .bool false] 27)).alloc (Obj.cells #[.slice none 0 0, .bool false] 27) = W at *
  refine (nsign_any W _ y K (by omega) (hb.below hB)).mono ?_
  rintro e w1 ⟨rfl, hb1⟩
  obtain ⟨s, hs⟩ : ∃ s, signZ y = s := ⟨_, rfl⟩
  have hs0 : s ≠ 0 := by rw [← hs]; exact HS.out
  rw [hs]
  clear hs HS
  have x1 := box_below hb1 hx (lt_of_block hx)
  have y1 := box_below hb1 hy (lt_of_block hy)
  have y2 := box_below hb1 hy' (lt_of_block hy')
  have t1 := two_cell0 x1
  have t2 := two_cell1 x1
  have C1 := chain2 hB hb1
  have ha1 := ha.below C1
  have hb1' := hb.below C1
  clear hx hy hy' hb1 hB ha hb
  go_wp2_with fail
  refine (ncut_any w1 _ _ x y K hK ha1 hb1' h0).mono ?_
  rintro e w2 ⟨⟨q, r, rfl, ⟨p1, l1, c1, rfl, m1⟩, ⟨p2, l2, c2, rfl, m2⟩⟩, hb2⟩
  obtain ⟨d1, hd1⟩ : ∃ d1, decide (x.tdiv y < 0) = d1 := ⟨_, rfl⟩
  obtain ⟨d2, hd2⟩ : ∃ d2, decide (x.tmod y < 0) = d2 := ⟨_, rfl⟩
  rw [hd1, hd2]
  have HD := hid (And.intro hd1 hd2)
  have X2 := boxed2 hb2 (Obj.cells #[.slice p1 l1 c1, .bool d1] 27) (Obj.cells #[.slice p2 l2 c2, .bool d2] 27)
  have Y2 := boxed2 (Below.refl w2.heap.size w2) (Obj.cells #[.slice p1 l1 c1, .bool d1] 27) (Obj.cells #[.slice p2 l2 c2, .bool d2] 27)
  have z5 := boxed2_first w2 (Obj.cells #[.slice p1 l1 c1, .bool d1] 27) (Obj.cells #[.slice p2 l2 c2, .bool d2] 27)
  have z6 := boxed2_second w2 (Obj.cells #[.slice p1 l1 c1, .bool d1] 27) (Obj.cells #[.slice p2 l2 c2, .bool d2] 27)
  have z3 := box_below X2 y1 (lt_of_block y1)
  have z4 := box_below X2 y2 (lt_of_block y2)
  have hl2 := lt_of_block (box_below hb2 y2 (lt_of_block y2))
  have C2 := chain2 C1 X2
  have m1 := m1.below Y2
  have m2 := m2.below Y2
  have HE := hid (And.intro (rfl : x.tdiv y = x.tdiv y) (rfl : x.tmod y = x.tmod y))
  clear hd1 hd2 X2 Y2 hb2 y1 y2 t1 t2 x1 ha1 hb1' C1
  go_wp2
  generalize (w2.alloc (Obj.cells #[.slice p1 l1 c1, .bool d1] 27)).alloc (Obj.cells #[.slice p2 l2 c2, .bool d2] 27) = XX at *
  have f0 := two_cell0 z5
  have f1 := two_cell1 z5
  have f2 := two_cell0 z6
  have f3 := two_cell1 z6
  have g0 := two_cell0 z3
  have g1 := two_cell1 z3
  have g2 := two_free (k := 0) z3
  have g3 := two_free (k := 1) z3
  have g4 := two_cell0 z4
  have g5 := two_cell1 z4
  have g6 := two_free (k := 0) z4
  have g7 := two_free (k := 1) z4
  obtain ⟨o1, o2, o3, o4, o5, o6, o7⟩ := ndiv_out C2 (show w.heap.size ≤ w.heap.size + 1 by omega) (show w.heap.size ≤ w.heap.size + 1 + 1 by omega) (by omega) z3 z4 m1 m2 _ rfl (x1 := .bool d1) (x2 := .bool d2)
  have HO := hid (And.intro o1 (And.intro o2 o3))
  have HC := hid (And.intro o4 (And.intro o5 (And.intro o6 o7)))
  clear o1 o2 o3 o4 o5 o6 o7
  have ne1 : w2.heap.size ≠ w.heap.size + 1 := by omega
  have ne2 : w2.heap.size ≠ w.heap.size + 1 + 1 := by omega
  have ne3 : w2.heap.size + 1 ≠ w.heap.size + 1 := by omega
  have ne4 : w2.heap.size + 1 ≠ w.heap.size + 1 + 1 := by omega
  go_region
  all_goals
    clear f0 f1 f2 f3 g0 g1 g2 g3 g4 g5 g6 g7
    generalize ((((XX.setCell ⟨w.heap.size + 1, 0, none⟩ (Value.slice p1 l1 c1)).setCell ⟨w.heap.size + 1, 1, none⟩ (Value.bool d1)).setCell ⟨w.heap.size + 1 + 1, 0, none⟩ (Value.slice p2 l2 c2)).setCell ⟨w.heap.size + 1 + 1, 1, none⟩ (Value.bool d2)) = Z at *
    have HC' : Hid (Z.drew.cell? ⟨w.heap.size + 1, 0, none⟩ = some (Value.slice p1 l1 c1) ∧ Z.drew.cell? ⟨w.heap.size + 1, 1, none⟩ = some (Value.bool d1) ∧ Z.drew.cell? ⟨w.heap.size + 1 + 1, 0, none⟩ = some (Value.slice p2 l2 c2) ∧ Z.drew.cell? ⟨w.heap.size + 1 + 1, 1, none⟩ = some (Value.bool d2)) := HC
    go_wp2
    refine bodyPost_ret (v := .tuple #[.agg #[.slice p1 l1 c1, .bool d1], .agg #[.slice p2 l2 c2, .bool d2], .int .i64 0]) (by simp [results, Tryz.results61, go_sem, HC'.out.1, HC'.out.2.1, HC'.out.2.2.1, HC'.out.2.2.2]) rfl ⟨⟨_, _, rfl, ⟨p1, l1, c1, by rw [HD.out.1], (HO.out.1.below (Below.refl _ _).drew).mono (by omega)⟩, ⟨p2, l2, c2, by rw [HD.out.2], (HO.out.2.1.below (Below.refl _ _).drew).mono (by omega)⟩⟩, HO.out.2.2.drew⟩
set_option maxHeartbeats 2000000 in
theorem ndivided_floor (w : World) (aa ab : Option Addr) (la ca lb cb : Nat) (x y : Int) (K : Nat) (hK : K ≤ 400000000) (ha : NumIs w (.agg #[.slice aa la ca, .bool (decide (x < 0))]) x K) (hb : NumIs w (.agg #[.slice ab lb cb, .bool (decide (y < 0))]) y K) (h0 : y ≠ 0) :
    Calls Tryz.prog 61 #[.func (Fn.func 62) #[.agg #[.slice aa la ca, .bool (decide (x < 0))]] #[], .agg #[.slice ab lb cb, .bool (decide (y < 0))]] w fun e w' => (∃ q r, e = .returned (.tuple #[q, r, .int .i64 0]) ∧ NumIs w' q (x.fdiv y) (K + 3) ∧ NumIs w' r (x.fmod y) (K + 1)) ∧ Below w.heap.size w w' := by
  have HS := hid (signZ_ne h0)
  generalize decide (x < 0) = b at *
  generalize decide (y < 0) = b' at *
  have hx := boxed3_first w (Obj.cells #[.slice ab lb cb, .bool b'] 27) (Obj.cells #[.slice none 0 0, .bool false] 27) (Obj.cells #[.slice none 0 0, .bool false] 27)
  have hy := boxed3_second w (Obj.cells #[.slice ab lb cb, .bool b'] 27) (Obj.cells #[.slice none 0 0, .bool false] 27) (Obj.cells #[.slice none 0 0, .bool false] 27)
  have hy' := boxed3_third w (Obj.cells #[.slice ab lb cb, .bool b'] 27) (Obj.cells #[.slice none 0 0, .bool false] 27) (Obj.cells #[.slice none 0 0, .bool false] 27)
  have hB := boxed3 (Below.refl w.heap.size w) (Obj.cells #[.slice ab lb cb, .bool b'] 27) (Obj.cells #[.slice none 0 0, .bool false] 27) (Obj.cells #[.slice none 0 0, .bool false] 27)
  go_enter Tryz.func61, Tryz.ntmps61
  go_wp2_with fail
  generalize ((w.alloc (Obj.cells #[.slice ab lb cb, .bool b'] 27)).alloc (Obj.cells #[.slice none 0 0, .bool false] 27)).alloc (Obj.cells #[.slice none 0 0, .bool false] 27) = W at *
  refine (nsign_any W _ y K (by omega) (hb.below hB)).mono ?_
  rintro e w1 ⟨rfl, hb1⟩
  obtain ⟨s, hs⟩ : ∃ s, signZ y = s := ⟨_, rfl⟩
  have hs0 : s ≠ 0 := by rw [← hs]; exact HS.out
  rw [hs]
  clear hs HS
  have x1 := box_below hb1 hx (lt_of_block hx)
  have y1 := box_below hb1 hy (lt_of_block hy)
  have y2 := box_below hb1 hy' (lt_of_block hy')
  have t1 := two_cell0 x1
  have t2 := two_cell1 x1
  have C1 := chain2 hB hb1
  have ha1 := ha.below C1
  have hb1' := hb.below C1
  clear hx hy hy' hb1 hB ha hb
  go_wp2_with fail
  refine (nfloored_any w1 _ _ x y K hK ha1 hb1' h0).mono ?_
  rintro e w2 ⟨⟨q, r, rfl, ⟨p1, l1, c1, rfl, m1⟩, ⟨p2, l2, c2, rfl, m2⟩⟩, hb2⟩
  obtain ⟨d1, hd1⟩ : ∃ d1, decide (x.fdiv y < 0) = d1 := ⟨_, rfl⟩
  obtain ⟨d2, hd2⟩ : ∃ d2, decide (x.fmod y < 0) = d2 := ⟨_, rfl⟩
  rw [hd1, hd2]
  have HD := hid (And.intro hd1 hd2)
  have X2 := boxed2 hb2 (Obj.cells #[.slice p1 l1 c1, .bool d1] 27) (Obj.cells #[.slice p2 l2 c2, .bool d2] 27)
  have Y2 := boxed2 (Below.refl w2.heap.size w2) (Obj.cells #[.slice p1 l1 c1, .bool d1] 27) (Obj.cells #[.slice p2 l2 c2, .bool d2] 27)
  have z5 := boxed2_first w2 (Obj.cells #[.slice p1 l1 c1, .bool d1] 27) (Obj.cells #[.slice p2 l2 c2, .bool d2] 27)
  have z6 := boxed2_second w2 (Obj.cells #[.slice p1 l1 c1, .bool d1] 27) (Obj.cells #[.slice p2 l2 c2, .bool d2] 27)
  have z3 := box_below X2 y1 (lt_of_block y1)
  have z4 := box_below X2 y2 (lt_of_block y2)
  have hl2 := lt_of_block (box_below hb2 y2 (lt_of_block y2))
  have C2 := chain2 C1 X2
  have m1 := m1.below Y2
  have m2 := m2.below Y2
  have HE := hid (And.intro (rfl : x.fdiv y = x.fdiv y) (rfl : x.fmod y = x.fmod y))
  clear hd1 hd2 X2 Y2 hb2 y1 y2 t1 t2 x1 ha1 hb1' C1
  go_wp2
  generalize (w2.alloc (Obj.cells #[.slice p1 l1 c1, .bool d1] 27)).alloc (Obj.cells #[.slice p2 l2 c2, .bool d2] 27) = XX at *
  have f0 := two_cell0 z5
  have f1 := two_cell1 z5
  have f2 := two_cell0 z6
  have f3 := two_cell1 z6
  have g0 := two_cell0 z3
  have g1 := two_cell1 z3
  have g2 := two_free (k := 0) z3
  have g3 := two_free (k := 1) z3
  have g4 := two_cell0 z4
  have g5 := two_cell1 z4
  have g6 := two_free (k := 0) z4
  have g7 := two_free (k := 1) z4
  obtain ⟨o1, o2, o3, o4, o5, o6, o7⟩ := ndiv_out C2 (show w.heap.size ≤ w.heap.size + 1 by omega) (show w.heap.size ≤ w.heap.size + 1 + 1 by omega) (by omega) z3 z4 m1 m2 _ rfl (x1 := .bool d1) (x2 := .bool d2)
  have HO := hid (And.intro o1 (And.intro o2 o3))
  have HC := hid (And.intro o4 (And.intro o5 (And.intro o6 o7)))
  clear o1 o2 o3 o4 o5 o6 o7
  have ne1 : w2.heap.size ≠ w.heap.size + 1 := by omega
  have ne2 : w2.heap.size ≠ w.heap.size + 1 + 1 := by omega
  have ne3 : w2.heap.size + 1 ≠ w.heap.size + 1 := by omega
  have ne4 : w2.heap.size + 1 ≠ w.heap.size + 1 + 1 := by omega
  go_region
  all_goals
    clear f0 f1 f2 f3 g0 g1 g2 g3 g4 g5 g6 g7
    generalize ((((XX.setCell ⟨w.heap.size + 1, 0, none⟩ (Value.slice p1 l1 c1)).setCell ⟨w.heap.size + 1, 1, none⟩ (Value.bool d1)).setCell ⟨w.heap.size + 1 + 1, 0, none⟩ (Value.slice p2 l2 c2)).setCell ⟨w.heap.size + 1 + 1, 1, none⟩ (Value.bool d2)) = Z at *
    have HC' : Hid (Z.drew.cell? ⟨w.heap.size + 1, 0, none⟩ = some (Value.slice p1 l1 c1) ∧ Z.drew.cell? ⟨w.heap.size + 1, 1, none⟩ = some (Value.bool d1) ∧ Z.drew.cell? ⟨w.heap.size + 1 + 1, 0, none⟩ = some (Value.slice p2 l2 c2) ∧ Z.drew.cell? ⟨w.heap.size + 1 + 1, 1, none⟩ = some (Value.bool d2)) := HC
    go_wp2
    refine bodyPost_ret (v := .tuple #[.agg #[.slice p1 l1 c1, .bool d1], .agg #[.slice p2 l2 c2, .bool d2], .int .i64 0]) (by simp [results, Tryz.results61, go_sem, HC'.out.1, HC'.out.2.1, HC'.out.2.2.1, HC'.out.2.2.2]) rfl ⟨⟨_, _, rfl, ⟨p1, l1, c1, by rw [HD.out.1], (HO.out.1.below (Below.refl _ _).drew).mono (by omega)⟩, ⟨p2, l2, c2, by rw [HD.out.2], (HO.out.2.1.below (Below.refl _ _).drew).mono (by omega)⟩⟩, HO.out.2.2.drew⟩
set_option maxHeartbeats 1000000 in
theorem ndivided_zero (w : World) (f : Value) (b : Value) (K : Nat) (hK : K ≤ 400000000) (hb : NumIs w b 0 K) :
    Calls Tryz.prog 61 #[f, b] w fun e w' => e = .returned (.tuple #[.agg #[.slice none 0 0, .bool false], .agg #[.slice none 0 0, .bool false], .int .i64 12]) ∧ Below w.heap.size w w' := by
  have Nb := hb
  obtain ⟨ab, lb, cb, rfl, nb⟩ := hb
  rw [show decide ((0 : Int) < 0) = false from rfl] at Nb ⊢
  have hB := boxed3 (Below.refl w.heap.size w) (Obj.cells #[.slice ab lb cb, .bool false] 27) (Obj.cells #[.slice none 0 0, .bool false] 27) (Obj.cells #[.slice none 0 0, .bool false] 27)
  have hy := boxed3_second w (Obj.cells #[.slice ab lb cb, .bool false] 27) (Obj.cells #[.slice none 0 0, .bool false] 27) (Obj.cells #[.slice none 0 0, .bool false] 27)
  have hy' := boxed3_third w (Obj.cells #[.slice ab lb cb, .bool false] 27) (Obj.cells #[.slice none 0 0, .bool false] 27) (Obj.cells #[.slice none 0 0, .bool false] 27)
  go_enter Tryz.func61, Tryz.ntmps61
  go_wp2_with fail
  generalize ((w.alloc (Obj.cells #[.slice ab lb cb, .bool false] 27)).alloc (Obj.cells #[.slice none 0 0, .bool false] 27)).alloc (Obj.cells #[.slice none 0 0, .bool false] 27) = W at *
  refine (nsign_any W _ 0 K (by omega) (Nb.below hB)).mono ?_
  rintro e w1 ⟨rfl, hb1⟩
  rw [show signZ 0 = 0 from rfl]
  have y1 := box_below hb1 hy (lt_of_block hy)
  have y2 := box_below hb1 hy' (lt_of_block hy')
  have C1 := chain2 hB hb1
  have g0 := two_cell0 y1
  have g1 := two_cell1 y1
  have g2 := two_free (k := 0) y1
  have g3 := two_free (k := 1) y1
  have g4 := two_cell0 y2
  have g5 := two_cell1 y2
  have g6 := two_free (k := 0) y2
  have g7 := two_free (k := 1) y2
  obtain ⟨o1, o2, o3, o4, o5, o6, o7⟩ := ndiv_out C1 (show w.heap.size ≤ w.heap.size + 1 by omega) (show w.heap.size ≤ w.heap.size + 1 + 1 by omega) (by omega) y1 y2 (nat_zero w1) (nat_zero w1) _ rfl (x1 := .bool false) (x2 := .bool false)
  have HC := hid (And.intro o3 (And.intro o4 (And.intro o5 (And.intro o6 o7))))
  clear o1 o2 o3 o4 o5 o6 o7 y1 y2 hy hy' hb1
  go_wp2
  exact bodyPost_ret (v := .tuple #[.agg #[.slice none 0 0, .bool false], .agg #[.slice none 0 0, .bool false], .int .i64 12]) (by simp [results, Tryz.results61, go_sem, HC.out.2.1, HC.out.2.2.1, HC.out.2.2.2.1, HC.out.2.2.2.2]) rfl ⟨rfl, HC.out.1⟩
set_option maxHeartbeats 1000000 in
theorem nquo_any (w : World) (a b : Value) (x y : Int) (K : Nat) (hK : K ≤ 400000000) (ha : NumIs w a x K) (hb : NumIs w b y K) (h0 : y ≠ 0) :
    Calls Tryz.prog 85 #[a, b] w fun e w' => (∃ q r, e = .returned (.tuple #[q, r, .int .i64 0]) ∧ NumIs w' q (x.tdiv y) K ∧ NumIs w' r (x.tmod y) K) ∧ Below w.heap.size w w' := by
  have Na := ha
  have Nb := hb
  obtain ⟨aa, la, ca, rfl, na⟩ := ha
  obtain ⟨ab, lb, cb, rfl, nb⟩ := hb
  obtain ⟨hB, hx, hz, hy, hy', s4⟩ := boxed4 w (Obj.cells #[.slice aa la ca, .bool (decide (x < 0))] 27) (Obj.cells #[.slice ab lb cb, .bool (decide (y < 0))] 27) (Obj.cells #[.slice none 0 0, .bool false] 27) (Obj.cells #[.slice none 0 0, .bool false] 27)
  go_enter Tryz.func85, Tryz.ntmps85
  go_wp2_with fail
  generalize (((w.alloc (Obj.cells #[.slice aa la ca, .bool (decide (x < 0))] 27)).alloc (Obj.cells #[.slice ab lb cb, .bool (decide (y < 0))] 27)).alloc (Obj.cells #[.slice none 0 0, .bool false] 27)).alloc (Obj.cells #[.slice none 0 0, .bool false] 27) = W at *
  refine (ndivided_cut W aa ab la ca lb cb x y K hK (Na.below hB) (Nb.below hB) h0).mono ?_
  rintro e w1 ⟨⟨q, r, rfl, ⟨p1, l1, c1, rfl, m1⟩, ⟨p2, l2, c2, rfl, m2⟩⟩, hb1⟩
  have y1 := box_below hb1 hy (lt_of_block hy)
  have y2 := box_below hb1 hy' (lt_of_block hy')
  have g0 := two_cell0 y1
  have g1 := two_cell1 y1
  have g2 := two_free (k := 0) y1
  have g3 := two_free (k := 1) y1
  have g4 := two_cell0 y2
  have g5 := two_cell1 y2
  have g6 := two_free (k := 0) y2
  have g7 := two_free (k := 1) y2
  obtain ⟨o1, o2, o3, o4, o5, o6, o7⟩ := ndiv_out (chain2 hB hb1) (show w.heap.size ≤ w.heap.size + 1 + 1 by omega) (show w.heap.size ≤ w.heap.size + 1 + 1 + 1 by omega) (by omega) y1 y2 m1 m2 _ rfl (x1 := .bool (decide (x.tdiv y < 0))) (x2 := .bool (decide (x.tmod y < 0)))
  have HO := hid (And.intro o1 (And.intro o2 o3))
  have HC := hid (And.intro o4 (And.intro o5 (And.intro o6 o7)))
  clear o1 o2 o3 o4 o5 o6 o7 y1 y2 hx hz hy hy' hb1
  obtain ⟨d1, hd1⟩ : ∃ d1, decide (x.tdiv y < 0) = d1 := ⟨_, rfl⟩
  obtain ⟨d2, hd2⟩ : ∃ d2, decide (x.tmod y < 0) = d2 := ⟨_, rfl⟩
  rw [hd1, hd2] at HO HC ⊢
  have HD := hid (And.intro hd1 hd2)
  clear hd1 hd2
  go_wp2
  exact bodyPost_ret (v := .tuple #[.agg #[.slice p1 l1 c1, .bool d1], .agg #[.slice p2 l2 c2, .bool d2], .int .i64 0]) (by simp [results, Tryz.results85, go_sem, HC.out.1, HC.out.2.1, HC.out.2.2.1, HC.out.2.2.2]) rfl ⟨⟨_, _, rfl, ⟨p1, l1, c1, by rw [HD.out.1], HO.out.1⟩, ⟨p2, l2, c2, by rw [HD.out.2], HO.out.2.1⟩⟩, HO.out.2.2⟩
set_option maxHeartbeats 1000000 in
theorem nquo_zero (w : World) (a b : Value) (x : Int) (K : Nat) (hK : K ≤ 400000000) (ha : NumIs w a x K) (hb : NumIs w b 0 K) :
    Calls Tryz.prog 85 #[a, b] w fun e w' => e = .returned (.tuple #[.agg #[.slice none 0 0, .bool false], .agg #[.slice none 0 0, .bool false], .int .i64 12]) ∧ Below w.heap.size w w' := by
  have Nb := hb
  obtain ⟨aa, la, ca, rfl, na⟩ := ha
  obtain ⟨ab, lb, cb, rfl, nb⟩ := hb
  rw [show decide ((0 : Int) < 0) = false from rfl] at Nb ⊢
  generalize decide (x < 0) = b at *
  obtain ⟨hB, hx, hz, hy, hy', s4⟩ := boxed4 w (Obj.cells #[.slice aa la ca, .bool b] 27) (Obj.cells #[.slice ab lb cb, .bool false] 27) (Obj.cells #[.slice none 0 0, .bool false] 27) (Obj.cells #[.slice none 0 0, .bool false] 27)
  go_enter Tryz.func85, Tryz.ntmps85
  go_wp2_with fail
  generalize (((w.alloc (Obj.cells #[.slice aa la ca, .bool b] 27)).alloc (Obj.cells #[.slice ab lb cb, .bool false] 27)).alloc (Obj.cells #[.slice none 0 0, .bool false] 27)).alloc (Obj.cells #[.slice none 0 0, .bool false] 27) = W at *
  refine (ndivided_zero W _ _ K hK (Nb.below hB)).mono ?_
  rintro e w1 ⟨rfl, hb1⟩
  have y1 := box_below hb1 hy (lt_of_block hy)
  have y2 := box_below hb1 hy' (lt_of_block hy')
  have g0 := two_cell0 y1
  have g1 := two_cell1 y1
  have g2 := two_free (k := 0) y1
  have g3 := two_free (k := 1) y1
  have g4 := two_cell0 y2
  have g5 := two_cell1 y2
  have g6 := two_free (k := 0) y2
  have g7 := two_free (k := 1) y2
  obtain ⟨o1, o2, o3, o4, o5, o6, o7⟩ := ndiv_out (chain2 hB hb1) (show w.heap.size ≤ w.heap.size + 1 + 1 by omega) (show w.heap.size ≤ w.heap.size + 1 + 1 + 1 by omega) (by omega) y1 y2 (nat_zero w1) (nat_zero w1) _ rfl (x1 := .bool false) (x2 := .bool false)
  have HC := hid (And.intro o3 (And.intro o4 (And.intro o5 (And.intro o6 o7))))
  clear o1 o2 o3 o4 o5 o6 o7 y1 y2 hx hz hy hy' hb1
  go_wp2
  exact bodyPost_ret (v := .tuple #[.agg #[.slice none 0 0, .bool false], .agg #[.slice none 0 0, .bool false], .int .i64 12]) (by simp [results, Tryz.results85, go_sem, HC.out.2.1, HC.out.2.2.1, HC.out.2.2.2.1, HC.out.2.2.2.2]) rfl ⟨rfl, HC.out.1⟩
set_option maxHeartbeats 1000000 in
theorem ndm_any (w : World) (a b : Value) (x y : Int) (K : Nat) (hK : K ≤ 400000000) (ha : NumIs w a x K) (hb : NumIs w b y K) (h0 : y ≠ 0) :
    Calls Tryz.prog 28 #[a, b] w fun e w' => (∃ q r, e = .returned (.tuple #[q, r, .int .i64 0]) ∧ NumIs w' q (x.fdiv y) (K + 3) ∧ NumIs w' r (x.fmod y) (K + 1)) ∧ Below w.heap.size w w' := by
  have Na := ha
  have Nb := hb
  obtain ⟨aa, la, ca, rfl, na⟩ := ha
  obtain ⟨ab, lb, cb, rfl, nb⟩ := hb
  obtain ⟨hB, hx, hz, hy, hy', s4⟩ := boxed4 w (Obj.cells #[.slice aa la ca, .bool (decide (x < 0))] 27) (Obj.cells #[.slice ab lb cb, .bool (decide (y < 0))] 27) (Obj.cells #[.slice none 0 0, .bool false] 27) (Obj.cells #[.slice none 0 0, .bool false] 27)
  go_enter Tryz.func28, Tryz.ntmps28
  go_wp2_with fail
  generalize (((w.alloc (Obj.cells #[.slice aa la ca, .bool (decide (x < 0))] 27)).alloc (Obj.cells #[.slice ab lb cb, .bool (decide (y < 0))] 27)).alloc (Obj.cells #[.slice none 0 0, .bool false] 27)).alloc (Obj.cells #[.slice none 0 0, .bool false] 27) = W at *
  refine (ndivided_floor W aa ab la ca lb cb x y K hK (Na.below hB) (Nb.below hB) h0).mono ?_
  rintro e w1 ⟨⟨q, r, rfl, ⟨p1, l1, c1, rfl, m1⟩, ⟨p2, l2, c2, rfl, m2⟩⟩, hb1⟩
  have y1 := box_below hb1 hy (lt_of_block hy)
  have y2 := box_below hb1 hy' (lt_of_block hy')
  have g0 := two_cell0 y1
  have g1 := two_cell1 y1
  have g2 := two_free (k := 0) y1
  have g3 := two_free (k := 1) y1
  have g4 := two_cell0 y2
  have g5 := two_cell1 y2
  have g6 := two_free (k := 0) y2
  have g7 := two_free (k := 1) y2
  obtain ⟨o1, o2, o3, o4, o5, o6, o7⟩ := ndiv_out (chain2 hB hb1) (show w.heap.size ≤ w.heap.size + 1 + 1 by omega) (show w.heap.size ≤ w.heap.size + 1 + 1 + 1 by omega) (by omega) y1 y2 m1 m2 _ rfl (x1 := .bool (decide (x.fdiv y < 0))) (x2 := .bool (decide (x.fmod y < 0)))
  have HO := hid (And.intro o1 (And.intro o2 o3))
  have HC := hid (And.intro o4 (And.intro o5 (And.intro o6 o7)))
  clear o1 o2 o3 o4 o5 o6 o7 y1 y2 hx hz hy hy' hb1
  obtain ⟨d1, hd1⟩ : ∃ d1, decide (x.fdiv y < 0) = d1 := ⟨_, rfl⟩
  obtain ⟨d2, hd2⟩ : ∃ d2, decide (x.fmod y < 0) = d2 := ⟨_, rfl⟩
  rw [hd1, hd2] at HO HC ⊢
  have HD := hid (And.intro hd1 hd2)
  clear hd1 hd2
  go_wp2
  exact bodyPost_ret (v := .tuple #[.agg #[.slice p1 l1 c1, .bool d1], .agg #[.slice p2 l2 c2, .bool d2], .int .i64 0]) (by simp [results, Tryz.results28, go_sem, HC.out.1, HC.out.2.1, HC.out.2.2.1, HC.out.2.2.2]) rfl ⟨⟨_, _, rfl, ⟨p1, l1, c1, by rw [HD.out.1], HO.out.1⟩, ⟨p2, l2, c2, by rw [HD.out.2], HO.out.2.1⟩⟩, HO.out.2.2⟩
set_option maxHeartbeats 1000000 in
theorem ndm_zero (w : World) (a b : Value) (x : Int) (K : Nat) (hK : K ≤ 400000000) (ha : NumIs w a x K) (hb : NumIs w b 0 K) :
    Calls Tryz.prog 28 #[a, b] w fun e w' => e = .returned (.tuple #[.agg #[.slice none 0 0, .bool false], .agg #[.slice none 0 0, .bool false], .int .i64 12]) ∧ Below w.heap.size w w' := by
  have Nb := hb
  obtain ⟨aa, la, ca, rfl, na⟩ := ha
  obtain ⟨ab, lb, cb, rfl, nb⟩ := hb
  rw [show decide ((0 : Int) < 0) = false from rfl] at Nb ⊢
  generalize decide (x < 0) = b at *
  obtain ⟨hB, hx, hz, hy, hy', s4⟩ := boxed4 w (Obj.cells #[.slice aa la ca, .bool b] 27) (Obj.cells #[.slice ab lb cb, .bool false] 27) (Obj.cells #[.slice none 0 0, .bool false] 27) (Obj.cells #[.slice none 0 0, .bool false] 27)
  go_enter Tryz.func28, Tryz.ntmps28
  go_wp2_with fail
  generalize (((w.alloc (Obj.cells #[.slice aa la ca, .bool b] 27)).alloc (Obj.cells #[.slice ab lb cb, .bool false] 27)).alloc (Obj.cells #[.slice none 0 0, .bool false] 27)).alloc (Obj.cells #[.slice none 0 0, .bool false] 27) = W at *
  refine (ndivided_zero W _ _ K hK (Nb.below hB)).mono ?_
  rintro e w1 ⟨rfl, hb1⟩
  have y1 := box_below hb1 hy (lt_of_block hy)
  have y2 := box_below hb1 hy' (lt_of_block hy')
  have g0 := two_cell0 y1
  have g1 := two_cell1 y1
  have g2 := two_free (k := 0) y1
  have g3 := two_free (k := 1) y1
  have g4 := two_cell0 y2
  have g5 := two_cell1 y2
  have g6 := two_free (k := 0) y2
  have g7 := two_free (k := 1) y2
  obtain ⟨o1, o2, o3, o4, o5, o6, o7⟩ := ndiv_out (chain2 hB hb1) (show w.heap.size ≤ w.heap.size + 1 + 1 by omega) (show w.heap.size ≤ w.heap.size + 1 + 1 + 1 by omega) (by omega) y1 y2 (nat_zero w1) (nat_zero w1) _ rfl (x1 := .bool false) (x2 := .bool false)
  have HC := hid (And.intro o3 (And.intro o4 (And.intro o5 (And.intro o6 o7))))
  clear o1 o2 o3 o4 o5 o6 o7 y1 y2 hx hz hy hy' hb1
  go_wp2
  exact bodyPost_ret (v := .tuple #[.agg #[.slice none 0 0, .bool false], .agg #[.slice none 0 0, .bool false], .int .i64 12]) (by simp [results, Tryz.results28, go_sem, HC.out.2.1, HC.out.2.2.1, HC.out.2.2.2.1, HC.out.2.2.2.2]) rfl ⟨rfl, HC.out.1⟩
end Go.Proofs.YtjldlmonccgopaaGreatDoor
/- Gcd: the greatest number that divides both. -/
namespace Go.Proofs.YtjldlmonccgopaaGreatDoor
open Go.RowKit
set_option linter.unusedVariables false
set_option maxRecDepth 100000
set_option linter.unusedSimpArgs false

theorem NatIs.len {w : World} {ao : Option Addr} {l c n K : Nat} (h : NatIs w (.agg #[.slice ao l c]) n K) : ∃ L, Limbs w (.slice ao l c) L ∧ Bd L ∧ Top L ∧ val L = n ∧ L.length = l ∧ l ≤ K ∧ (l = 0 ↔ n = 0) := by
  obtain ⟨sl, L, h1, h2, h3, h4, h5, h6⟩ := h
  simp only [Value.agg.injEq] at h1
  have e : sl = .slice ao l c := by simpa using h1.symm
  subst e
  have hl : L.length = l := by
    obtain ⟨ao', c', e⟩ := h2.slice
    simp only [Value.slice.injEq] at e
    exact e.2.1.symm
  refine ⟨L, h2, h3, h4, h5, hl, by omega, ?_, ?_⟩
  · intro e; rw [← h5, List.eq_nil_of_length_eq_zero (by omega : L.length = 0)]; rfl
  · intro e
    rcases Nat.eq_zero_or_pos L.length with h | h
    · omega
    · exfalso
      have := val_ge_top L (L.length - 1) L.length rfl (by omega) (h4 (by omega))
      have := pow_pos32 (L.length - 1)
      omega
theorem one_set {w : World} {b : Nat} {u x : Value} {t : TypeId} (h : w.heap[b]? = some (.cells #[u] t (0, 0))) : (w.setCell ⟨b, 0, none⟩ x).heap[b]? = some (.cells #[x] t (0, 0)) := by
  have hlt := lt_of_block h
  have h' : w.heap[b] = .cells #[u] t (0, 0) := by simpa [Array.getElem?_eq_getElem hlt] using h
  show (w.heap.modify b _)[b]? = _
  simp [Array.getElem_modify, hlt, h']
def GcdMem (w : World) (K p k : Nat) (ao : Option Addr) (la ca : Nat) (bo : Option Addr) (lb cb : Nat) (wr : World) : Prop :=
  NatIs wr (.agg #[.slice ao la ca]) p K ∧ NatIs wr (.agg #[.slice bo lb cb]) k K ∧ wr.heap[w.heap.size]? = some (Obj.cells #[.slice ao la ca] 25) ∧ wr.heap[w.heap.size + 1]? = some (Obj.cells #[.slice bo lb cb] 25) ∧ wr.heap[w.heap.size + 1 + 1]? = some (Obj.cells #[.slice none 0 0] 25) ∧ Below w.heap.size w wr ∧ w.heap.size + 1 + 1 < wr.heap.size
theorem GcdMem.below {w : World} {K p k : Nat} {ao : Option Addr} {la ca : Nat} {bo : Option Addr} {lb cb : Nat} {wr X : World} (h : GcdMem w K p k ao la ca bo lb cb wr) (hb : Below wr.heap.size wr X) : GcdMem w K p k ao la ca bo lb cb X := by
  obtain ⟨h1, h2, h3, h4, h5, h6, h7⟩ := h
  have := hb.size
  exact ⟨h1.below hb, h2.below hb, box_below hb h3 (by omega), box_below hb h4 (by omega), box_below hb h5 (by omega), chain2 h6 hb, by omega⟩
theorem gcd_cells {w w3 : World} {K p k r : Nat} {ao bo pr : Option Addr} {la ca lb cb lr cr : Nat} (h : GcdMem w K p k ao la ca bo lb cb w3) (hr : NatIs w3 (.agg #[.slice pr lr cr]) r K) (o : Obj) :
    ((w3.alloc o).alloc (Obj.cells #[.slice pr lr cr] 25)).cell? ⟨w.heap.size, 0, none⟩ = some (.slice ao la ca) ∧ ((w3.alloc o).alloc (Obj.cells #[.slice pr lr cr] 25)).cell? ⟨w.heap.size + 1, 0, none⟩ = some (.slice bo lb cb) ∧ ((w3.alloc o).alloc (Obj.cells #[.slice pr lr cr] 25)).cell? ⟨w3.heap.size + 1, 0, none⟩ = some (.slice pr lr cr) ∧
    ((w3.alloc o).alloc (Obj.cells #[.slice pr lr cr] 25)).frozen? ⟨w.heap.size, 0, none⟩ = false ∧ ((w3.alloc o).alloc (Obj.cells #[.slice pr lr cr] 25)).frozen? ⟨w.heap.size + 1, 0, none⟩ = false ∧ w3.heap.size + 1 ≠ w.heap.size ∧ w3.heap.size + 1 ≠ w.heap.size + 1 := by
  obtain ⟨h1, h2, h3, h4, h5, h6, h7⟩ := h
  have b0 := box_alloc (box_alloc h3 o) (Obj.cells #[.slice pr lr cr] 25)
  have b1 := box_alloc (box_alloc h4 o) (Obj.cells #[.slice pr lr cr] 25)
  have b2 := boxed2_second w3 o (Obj.cells #[.slice pr lr cr] 25)
  exact ⟨cell_of_one b0, cell_of_one b1, cell_of_one b2, free_of_one b0, free_of_one b1, by omega, by omega⟩
theorem gcd_turn {w w3 : World} {K p k m n : Nat} {ao bo pr : Option Addr} {la ca lb cb lr cr : Nat} (h : GcdMem w K p k ao la ca bo lb cb w3) (hr : NatIs w3 (.agg #[.slice pr lr cr]) (p % k) K) (hg : Nat.gcd p k = Nat.gcd m n) (h0 : 0 < k) (o : Obj) :
    p % k < k ∧ Nat.gcd k (p % k) = Nat.gcd m n ∧ ∀ X, ((w3.alloc o).alloc (Obj.cells #[.slice pr lr cr] 25)) = X → GcdMem w K k (p % k) bo lb cb pr lr cr ((X.setCell ⟨w.heap.size, 0, none⟩ (.slice bo lb cb)).setCell ⟨w.heap.size + 1, 0, none⟩ (.slice pr lr cr)) := by
  obtain ⟨h1, h2, h3, h4, h5, h6, h7⟩ := h
  refine ⟨Nat.mod_lt _ h0, by rw [← hg, Nat.gcd_comm k, ← Nat.gcd_rec, Nat.gcd_comm], ?_⟩
  rintro X rfl
  have B0 : Below w3.heap.size w3 ((w3.alloc o).alloc (Obj.cells #[.slice pr lr cr] 25)) := boxed2 (Below.refl _ _) _ _
  have b0 := box_below B0 h3 (by omega)
  have b1 := box_below B0 h4 (by omega)
  have b2 := box_below B0 h5 (by omega)
  have s0 := B0.size
  generalize ((w3.alloc o).alloc (Obj.cells #[.slice pr lr cr] 25)) = X at *
  have b1' := box_set b1 (show w.heap.size + 1 ≠ w.heap.size by omega) (.slice bo lb cb)
  refine ⟨((h2.below B0).box b0 (by decide) _).box b1' (by decide) _, ((hr.below B0).box b0 (by decide) _).box b1' (by decide) _, ?_, ?_, ?_, ?_, ?_⟩
  · exact box_set (one_set b0) (by omega) _
  · exact one_set b1'
  · exact box_set (box_set b2 (by omega) _) (by omega) _
  · exact ((chain2 h6 B0).setCell (p := ⟨w.heap.size, 0, none⟩) (Nat.le_refl _) _).setCell (p := ⟨w.heap.size + 1, 0, none⟩) (by show w.heap.size ≤ w.heap.size + 1; omega) _
  · have : ((X.setCell ⟨w.heap.size, 0, none⟩ (.slice bo lb cb)).setCell ⟨w.heap.size + 1, 0, none⟩ (.slice pr lr cr)).heap.size = X.heap.size := by simp
    omega
set_option maxHeartbeats 2000000 in
theorem gcd_any (w : World) (a b : Value) (m n K : Nat) (hK : K ≤ 1000000000) (ha : NatIs w a m K) (hb : NatIs w b n K) :
    Calls Tryz.prog 84 #[a, b] w fun e w' => ∃ v, e = .returned v ∧ NatIs w' v (Nat.gcd m n) K ∧ Below w.heap.size w w' := by
  obtain ⟨ao0, la0, ca0, rfl⟩ := ha.form
  obtain ⟨bo0, lb0, cb0, rfl⟩ := hb.form
  go_enter Tryz.func84, Tryz.ntmps84
  go_wp2
  have B3 := boxed3 (Below.refl w.heap.size w) (Obj.cells #[Value.slice ao0 la0 ca0] 25) (Obj.cells #[Value.slice bo0 lb0 cb0] 25) (Obj.cells #[Value.slice none 0 0] 25)
  have b0 := boxed3_first w (Obj.cells #[Value.slice ao0 la0 ca0] 25) (Obj.cells #[Value.slice bo0 lb0 cb0] 25) (Obj.cells #[Value.slice none 0 0] 25)
  have b1 := boxed3_second w (Obj.cells #[Value.slice ao0 la0 ca0] 25) (Obj.cells #[Value.slice bo0 lb0 cb0] 25) (Obj.cells #[Value.slice none 0 0] 25)
  have b2 := boxed3_third w (Obj.cells #[Value.slice ao0 la0 ca0] 25) (Obj.cells #[Value.slice bo0 lb0 cb0] 25) (Obj.cells #[Value.slice none 0 0] 25)
  have s3 : w.heap.size + 1 + 1 < (((w.alloc (Obj.cells #[Value.slice ao0 la0 ca0] 25)).alloc (Obj.cells #[Value.slice bo0 lb0 cb0] 25)).alloc (Obj.cells #[Value.slice none 0 0] 25)).heap.size := by simp
  generalize ((w.alloc (Obj.cells #[Value.slice ao0 la0 ca0] 25)).alloc (Obj.cells #[Value.slice bo0 lb0 cb0] 25)).alloc (Obj.cells #[Value.slice none 0 0] 25) = W at *
  have G0 := hid (show GcdMem w K m n ao0 la0 ca0 bo0 lb0 cb0 W from ⟨ha.below B3, hb.below B3, b0, b1, b2, B3, s3⟩)
  clear B3 b0 b1 b2 s3 ha hb
  go_loopg [] n (fun k wr => ∃ p ao la ca bo lb cb, Hid (GcdMem w K p k ao la ca bo lb cb wr) ∧ Hid (Nat.gcd p k = Nat.gcd m n))
  case atStart => exact ⟨m, _, _, _, _, _, _, G0, hid rfl⟩
  case round =>
    obtain ⟨p, ao, la, ca, bo, lb, cb, HG, HE⟩ := hrel
    have c0 := cell_of_one HG.out.2.2.1
    have c1 := cell_of_one HG.out.2.2.2.1
    have c2 := cell_of_one HG.out.2.2.2.2.1
    have f2 := free_of_one HG.out.2.2.2.2.1
    obtain ⟨LB, oB, bB, tB, vB, lB, kB, zB⟩ := HG.out.2.1.len
    obtain ⟨LA, oA, bA, tA, vA, lA, kA, zA⟩ := HG.out.1.len
    rcases Nat.eq_zero_or_pos gk with h0 | h0
    · have hl0 : lb = 0 := zB.2 h0
      subst hl0
      subst h0
      have hE := HE.out
      rw [Nat.gcd_zero_right] at hE
      have HE' := hid hE
      clear hE HE zA zB vA vB lA lB
      go_wp2_with fail
      refine (copied_any wr _ p K hK HG.out.1).mono ?_
      rintro e w1 ⟨v, rfl, hv, hb⟩
      obtain ⟨a1, l1, k1, rfl⟩ := hv.form
      have x2 := box_below hb HG.out.2.2.2.2.1 (by have := HG.out.2.2.2.2.2.2; omega)
      have u2 := cell_of_one x2
      have g2 := free_of_one x2
      have n2 := hv.box x2 (by decide) (.slice a1 l1 k1)
      have B2 := (chain2 HG.out.2.2.2.2.2.1 hb).setCell (p := ⟨w.heap.size + 1 + 1, 0, none⟩) (by show w.heap.size ≤ w.heap.size + 1 + 1; omega) (.slice a1 l1 k1)
      clear hv hb x2 c0 c1 c2 f2
      go_wp2
      exact bodyPost_ret (v := .agg #[.slice a1 l1 k1]) (by simp [results, Tryz.results84, go_sem, u2]) rfl ⟨_, rfl, by rw [← HE'.out]; exact n2, B2⟩
    · have hlb : 0 < (lb : Int) := by have := zB.1; omega
      have hla1 : la ≤ 1000000000 := by omega
      have hlb1 : lb ≤ 1000000000 := by omega
      have HL := hid (And.intro (And.intro vA lA) (And.intro vB lB))
      clear zA zB vA vB lA lB
      go_wp2_with fail
      refine (fits_any wr ao la ca hla1).mono ?_
      rintro e w1 ⟨rfl, hb1⟩
      have HG1 := hid (HG.out.below hb1)
      have d0 := cell_of_one HG1.out.2.2.1
      have d1 := cell_of_one HG1.out.2.2.2.1
      clear c0 c1 c2 f2
      by_cases h2 : la ≤ 2
      · rw [show decide (la ≤ 2) = true by simp [h2]]
        go_wp2_with fail
        refine (fits_any w1 bo lb cb hlb1).mono ?_
        rintro e w2 ⟨rfl, hb2⟩
        have HG2 := hid (HG1.out.below hb2)
        have e0 := cell_of_one HG2.out.2.2.1
        have e1 := cell_of_one HG2.out.2.2.2.1
        clear d0 d1
        by_cases h3 : lb ≤ 2
        · rw [show decide (lb ≤ 2) = true by simp [h3]]
          have hx64 : p < 18446744073709551616 := by
            have h := val_lt bA
            rw [HL.out.1.1, HL.out.1.2] at h
            exact Nat.lt_of_lt_of_le h (Nat.le_trans (Nat.pow_le_pow_right (by decide) h2) (by decide))
          have hy64 : gk < 18446744073709551616 := by
            have h := val_lt bB
            rw [HL.out.2.1, HL.out.2.2] at h
            exact Nat.lt_of_lt_of_le h (Nat.le_trans (Nat.pow_le_pow_right (by decide) h3) (by decide))
          have hz64 : Nat.gcd p gk < 18446744073709551616 := Nat.lt_of_le_of_lt (Nat.gcd_le_right p h0) hy64
          have HWA := hid (fun w' (h' : Below wr.heap.size wr w') => word_any w' ao la ca LA bA (oA.below h') (by rw [HL.out.1.2]; exact h2))
          have HWB := hid (fun w' (h' : Below wr.heap.size wr w') => word_any w' bo lb cb LB bB (oB.below h') (by rw [HL.out.2.2]; exact h3))
          rw [HL.out.1.1] at HWA
          rw [HL.out.2.1] at HWB
          have C0 : Below wr.heap.size wr w2.drew := (chain2 hb1 hb2).drew
          have M0 := hid (show GcdMem w K p gk ao la ca bo lb cb w2.drew from HG.out.below C0)
          have e0' : w2.drew.cell? ⟨w.heap.size, 0, none⟩ = some (.slice ao la ca) := e0
          have e1' : w2.drew.cell? ⟨w.heap.size + 1, 0, none⟩ = some (.slice bo lb cb) := e1
          obtain ⟨z, hze⟩ : ∃ z, Nat.gcd p gk = z := ⟨_, rfl⟩
          have HW := hid (fun w' => gcdw_any w' p gk hx64 hy64)
          rw [hze] at hz64 HW
          have HZ := hid (hze.symm.trans HE.out)
          clear hze oA oB bA bB tA tB
          go_wp2
          go_region_held3 (fun w' => w'.cell? ⟨w.heap.size, 0, none⟩ = some (.slice ao la ca) ∧ w'.cell? ⟨w.heap.size + 1, 0, none⟩ = some (.slice bo lb cb)) ((first | exact ⟨e0', e1'⟩ | exact K1 | exact K2 | exact K3 | exact K4 | exact K5)) (first
            | (have gg := C3; go_at_call 31; refine (of_any z hz64 _).mono ?_; rintro e w6 ⟨v6, rfl, n6, hb6⟩; obtain ⟨a6, l6, c6, rfl⟩ := n6.form; have C4 := chain2 C3 hb6; have M6 := HG.out.below C4; have K4 := And.intro (kcell hb6 K3.1) (kcell hb6 K3.2); have u6 := cell_of_one M6.2.2.2.2.1; have f6 := free_of_one M6.2.2.2.2.1; have K5 : (w6.setCell ⟨w.heap.size + 1 + 1, 0, none⟩ (.slice a6 l6 c6)).cell? ⟨w.heap.size, 0, none⟩ = some (.slice ao la ca) ∧ (w6.setCell ⟨w.heap.size + 1 + 1, 0, none⟩ (.slice a6 l6 c6)).cell? ⟨w.heap.size + 1, 0, none⟩ = some (.slice bo lb cb) := And.intro (cell_of_one (box_set M6.2.2.1 (by omega) _)) (cell_of_one (box_set M6.2.2.2.1 (by omega) _)))
            | (have gg := C2; go_at_call 108; refine (HW.out _).mono ?_; rintro e w5 ⟨rfl, hb5⟩; have C3 := chain2 C2 hb5; have K3 := And.intro (kcell hb5 K2.1) (kcell hb5 K2.2))
            | (have gg := C1; go_at_call 109; refine (HWB.out _ C1).mono ?_; rintro e w4 ⟨rfl, hb4⟩; have C2 := chain2 C1 hb4; have K2 := And.intro (kcell hb4 K1.1) (kcell hb4 K1.2))
            | (have gg := C0; go_at_call 109; refine (HWA.out _ C0).mono ?_; rintro e w3 ⟨rfl, hb3⟩; have C1 := chain2 C0 hb3; have K1 := And.intro (kcell hb3 e0') (kcell hb3 e1')))
          have n7 := n6.box M6.2.2.2.2.1 (by decide) (.slice a6 l6 c6)
          have B7 := M6.2.2.2.2.2.1.setCell (p := ⟨w.heap.size + 1 + 1, 0, none⟩) (by show w.heap.size ≤ w.heap.size + 1 + 1; omega) (.slice a6 l6 c6)
          have c7 := cell_of_one (one_set M6.2.2.2.2.1 (x := .slice a6 l6 c6))
          have n8 := n7.fit (show z < 4294967296 ^ K by have h := HG.out.2.1.lt; have h' := HZ.out; rw [← HE.out] at h'; exact h' ▸ Nat.lt_of_le_of_lt (Nat.gcd_le_right p h0) h)
          clear n7 n6 M6 C1 C2 C3 C4 K1 K2 K3 K4 K5 hb3 hb4 hb5 hb6 u6 f6 e0 e1 e0' e1'
          generalize w6.setCell ⟨w.heap.size + 1 + 1, 0, none⟩ (.slice a6 l6 c6) = X at *
          go_wp2
          exact bodyPost_ret (v := .agg #[.slice a6 l6 c6]) (by simp [results, Tryz.results84, go_sem, c7]) rfl ⟨_, rfl, by rw [← HZ.out]; exact n8, B7⟩
        · rw [show decide (lb ≤ 2) = false by simp [h3]]
          go_wp2_with fail
          refine (divmod_any w2 _ _ p gk K K hK hK HG2.out.1 HG2.out.2.1 (by omega)).mono ?_
          rintro e w3 ⟨⟨q, r, rfl, hq, hr⟩, hb3⟩
          obtain ⟨pq, lq, cq, rfl⟩ := hq.form
          obtain ⟨pr, lr, cr, rfl⟩ := hr.form
          have HG3 := hid (HG2.out.below hb3)
          have g0 := cell_of_one HG3.out.2.2.1
          have g1 := cell_of_one HG3.out.2.2.2.1
          have HR := hid hr
          clear hq hr hb3 e0 e1
          go_wp2
          have HZ := hid (gcd_turn HG3.out HR.out HE.out h0 (Obj.cells #[Value.slice pq lq cq] 25))
          have HZX := HZ.out.2.2 _ rfl
          have hX := gcd_cells HG3.out HR.out (Obj.cells #[Value.slice pq lq cq] 25)
          obtain ⟨h4, h5, h6, h7, h8, h9, h10⟩ := hX
          generalize ((w3.alloc (Obj.cells #[Value.slice pq lq cq] 25)).alloc (Obj.cells #[Value.slice pr lr cr] 25)) = X at *
          generalize w3.heap.size + 1 = y at *
          clear g0 g1
          go_region
          all_goals
            have HM := hid HZX
            clear h4 h5 h6 h7 h8
            generalize p % gk = rr at *
            go_wp2
            go_roundg rr
            case rel => exact ⟨gk, _, _, _, _, _, _, hid (HM.out.below (Below.refl _ _).drew), hid HZ.out.2.1⟩
            case measure => exact HZ.out.1
      · rw [show decide (la ≤ 2) = false by simp [h2]]
        go_wp2_with fail
        refine (divmod_any w1 _ _ p gk K K hK hK HG1.out.1 HG1.out.2.1 (by omega)).mono ?_
        rintro e w3 ⟨⟨q, r, rfl, hq, hr⟩, hb3⟩
        obtain ⟨pq, lq, cq, rfl⟩ := hq.form
        obtain ⟨pr, lr, cr, rfl⟩ := hr.form
        have HG3 := hid (HG1.out.below hb3)
        have g0 := cell_of_one HG3.out.2.2.1
        have g1 := cell_of_one HG3.out.2.2.2.1
        have HR := hid hr
        clear hq hr hb3 d0 d1
        go_wp2
        have HZ := hid (gcd_turn HG3.out HR.out HE.out h0 (Obj.cells #[Value.slice pq lq cq] 25))
        have HZX := HZ.out.2.2 _ rfl
        have hX := gcd_cells HG3.out HR.out (Obj.cells #[Value.slice pq lq cq] 25)
        obtain ⟨h4, h5, h6, h7, h8, h9, h10⟩ := hX
        generalize ((w3.alloc (Obj.cells #[Value.slice pq lq cq] 25)).alloc (Obj.cells #[Value.slice pr lr cr] 25)) = X at *
        generalize w3.heap.size + 1 = y at *
        clear g0 g1
        go_region
        all_goals
          have HM := hid HZX
          clear h4 h5 h6 h7 h8
          generalize p % gk = rr at *
          go_wp2
          go_roundg rr
          case rel => exact ⟨gk, _, _, _, _, _, _, hid (HM.out.below (Below.refl _ _).drew), hid HZ.out.2.1⟩
          case measure => exact HZ.out.1
end Go.Proofs.YtjldlmonccgopaaGreatDoor
