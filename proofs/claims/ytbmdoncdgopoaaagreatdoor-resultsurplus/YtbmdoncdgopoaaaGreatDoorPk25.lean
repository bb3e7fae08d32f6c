/- NFloor, NQuo. -/
import Derived.Test.YtbmdoncdgopoaaaGreatDoorZNDiv
import Derived.Test.YtbmdoncdgopoaaaGreatDoorPk7
/- Whole numbers: the quotient that is rounded down. -/
namespace Go.Proofs.YtbmdoncdgopoaaaGreatDoor
open Go.RowKit
set_option linter.unusedVariables false
set_option maxRecDepth 100000
set_option linter.unusedSimpArgs false
attribute [local go_sem ↓] Go.wp_at_zero Go.wp_at_succ

theorem signZ_ne {y : Int} (h : y ≠ 0) : signZ y ≠ 0 := by
  unfold signZ
  repeat' split
  all_goals omega
theorem keepF {W X : World} {p q r : Nat} {a b c d e f : Value} (h1 : W.cell? ⟨p, 0, none⟩ = some a) (h2 : W.cell? ⟨p, 1, none⟩ = some b) (h3 : W.cell? ⟨q, 0, none⟩ = some c) (h4 : W.cell? ⟨q, 1, none⟩ = some d) (h5 : W.cell? ⟨r, 0, none⟩ = some e) (h6 : W.cell? ⟨r, 1, none⟩ = some f) (h : Below W.heap.size W X) :
    X.cell? ⟨p, 0, none⟩ = some a ∧ X.cell? ⟨p, 1, none⟩ = some b ∧ X.cell? ⟨q, 0, none⟩ = some c ∧ X.cell? ⟨q, 1, none⟩ = some d ∧ X.cell? ⟨r, 0, none⟩ = some e ∧ X.cell? ⟨r, 1, none⟩ = some f := ⟨kc h h1, kc h h2, kc h h3, kc h h4, kc h h5, kc h h6⟩
theorem keepF2 {X : World} {p q r s : Nat} {a b c d e f : Value} (h : X.cell? ⟨p, 0, none⟩ = some a ∧ X.cell? ⟨p, 1, none⟩ = some b ∧ X.cell? ⟨q, 0, none⟩ = some c ∧ X.cell? ⟨q, 1, none⟩ = some d ∧ X.cell? ⟨r, 0, none⟩ = some e ∧ X.cell? ⟨r, 1, none⟩ = some f) (h1 : p ≠ s) (h2 : q ≠ s) (h3 : r ≠ s) (u v : Value) :
    ((X.setCell ⟨s, 0, none⟩ u).setCell ⟨s, 1, none⟩ v).cell? ⟨p, 0, none⟩ = some a ∧ ((X.setCell ⟨s, 0, none⟩ u).setCell ⟨s, 1, none⟩ v).cell? ⟨p, 1, none⟩ = some b ∧ ((X.setCell ⟨s, 0, none⟩ u).setCell ⟨s, 1, none⟩ v).cell? ⟨q, 0, none⟩ = some c ∧ ((X.setCell ⟨s, 0, none⟩ u).setCell ⟨s, 1, none⟩ v).cell? ⟨q, 1, none⟩ = some d ∧ ((X.setCell ⟨s, 0, none⟩ u).setCell ⟨s, 1, none⟩ v).cell? ⟨r, 0, none⟩ = some e ∧ ((X.setCell ⟨s, 0, none⟩ u).setCell ⟨s, 1, none⟩ v).cell? ⟨r, 1, none⟩ = some f :=
  ⟨two_keep0 h.1 h1 _ _, two_keep0 h.2.1 h1 _ _, two_keep0 h.2.2.1 h2 _ _, two_keep0 h.2.2.2.1 h2 _ _, two_keep0 h.2.2.2.2.1 h3 _ _, two_keep0 h.2.2.2.2.2 h3 _ _⟩
theorem fdiv_same {x y : Int} (h0 : y ≠ 0) (h : decide (x < 0) = decide (y < 0) ∨ x.tmod y = 0) : x.fdiv y = x.tdiv y ∧ x.fmod y = x.tmod y := by
  have e := Int.tmod_add_mul_tdiv x y
  have hl := Int.natAbs_tmod x y
  have hlt : (x.tmod y).natAbs < y.natAbs := by rw [hl]; exact Nat.mod_lt _ (by omega)
  have hs : 0 ≤ x → 0 ≤ x.tmod y := fun h => Int.tmod_nonneg y h
  have hs' : x < 0 → x.tmod y ≤ 0 := fun h => by
    have := Int.tmod_nonneg (a := -x) y (by omega)
    rw [Int.neg_tmod] at this; omega
  generalize x.tmod y = r at *
  generalize x.tdiv y = q at *
  rcases Int.lt_or_le y 0 with hy | hy
  · refine (Int.fdiv_fmod_unique' hy).2 ⟨e, ?_, ?_⟩
    · omega
    · rcases h with h | h
      · have : x < 0 := of_decide_eq_true (h.trans (decide_eq_true hy))
        have := hs' this; omega
      · omega
  · refine (Int.fdiv_fmod_unique (by omega)).2 ⟨e, ?_, ?_⟩
    · rcases h with h | h
      · have : ¬ x < 0 := of_decide_eq_false (h.trans (decide_eq_false (by omega)))
        exact hs (by omega)
      · omega
    · omega
theorem fdiv_less {x y : Int} (h0 : y ≠ 0) (h : ¬ (decide (x < 0) = decide (y < 0))) (h' : x.tmod y ≠ 0) : x.fdiv y = x.tdiv y - 1 ∧ x.fmod y = x.tmod y + y := by
  have e := Int.tmod_add_mul_tdiv x y
  have hl := Int.natAbs_tmod x y
  have hlt : (x.tmod y).natAbs < y.natAbs := by rw [hl]; exact Nat.mod_lt _ (by omega)
  have hs : 0 ≤ x → 0 ≤ x.tmod y := fun h => Int.tmod_nonneg y h
  have hs' : x < 0 → x.tmod y ≤ 0 := fun h => by
    have := Int.tmod_nonneg (a := -x) y (by omega)
    rw [Int.neg_tmod] at this; omega
  have e2 : x.tmod y + y + y * (x.tdiv y - 1) = x := by rw [Int.mul_sub, Int.mul_one]; omega
  generalize x.tmod y = r at *
  generalize x.tdiv y = q at *
  rcases Int.lt_or_le y 0 with hy | hy
  · have hx : 0 ≤ x := by
      rcases Int.lt_or_le x 0 with hx | hx
      · exact absurd ((decide_eq_true hx).trans (decide_eq_true hy).symm) h
      · exact hx
    have := hs hx
    exact (Int.fdiv_fmod_unique' hy).2 ⟨e2, by omega, by omega⟩
  · have hx : x < 0 := by
      rcases Int.lt_or_le x 0 with hx | hx
      · exact hx
      · exact absurd ((decide_eq_false (by omega)).trans (decide_eq_false (by omega)).symm) h
    have := hs' hx
    exact (Int.fdiv_fmod_unique (by omega)).2 ⟨e2, by omega, by omega⟩
end Go.Proofs.YtbmdoncdgopoaaaGreatDoor
/- Whole numbers: both ways of dividing, kept from a divisor of 0. -/
namespace Go.Proofs.YtbmdoncdgopoaaaGreatDoor
open Go.RowKit
set_option linter.unusedVariables false
set_option maxRecDepth 100000
set_option linter.unusedSimpArgs false
attribute [local go_sem ↓] Go.wp_at_zero Go.wp_at_succ

set_option maxHeartbeats 2000000 in
theorem ndivided_cut (w : World) (aa ab : Option Addr) (la ca lb cb : Nat) (x y : Int) (K : Nat) (hK : K ≤ 400000000) (ha : NumIs w (.agg #[.slice aa la ca, .bool (decide (x < 0))]) x K) (hb : NumIs w (.agg #[.slice ab lb cb, .bool (decide (y < 0))]) y K) (h0 : y ≠ 0) :
    Calls Tryz.prog 173 #[.func (Fn.func 174) #[.agg #[.slice aa la ca, .bool (decide (x < 0))]] #[], .agg #[.slice ab lb cb, .bool (decide (y < 0))]] w fun e w' => (∃ q r, e = .returned (.tuple #[q, r, .int .i64 0]) ∧ NumIs w' q (x.tdiv y) K ∧ NumIs w' r (x.tmod y) K) ∧ Below w.heap.size w w' := by
  have HS := hid (signZ_ne h0)
  generalize decide (x < 0) = b at *
  generalize decide (y < 0) = b' at *
  have hx := boxed3_first w (Obj.cells #[.slice ab lb cb, .bool b'] 72) (Obj.cells #[.slice none 0 0, .bool false] 72) (Obj.cells #[.slice none 0 0, .bool false] 72)
  have hy := boxed3_second w (Obj.cells #[.slice ab lb cb, .bool b'] 72) (Obj.cells #[.slice none 0 0, .bool false] 72) (Obj.cells #[.slice none 0 0, .bool false] 72)
  have hy' := boxed3_third w (Obj.cells #[.slice ab lb cb, .bool b'] 72) (Obj.cells #[.slice none 0 0, .bool false] 72) (Obj.cells #[.slice none 0 0, .bool false] 72)
  have hB := boxed3 (Below.refl w.heap.size w) (Obj.cells #[.slice ab lb cb, .bool b'] 72) (Obj.cells #[.slice none 0 0, .bool false] 72) (Obj.cells #[.slice none 0 0, .bool false] 72)
  go_enter Tryz.func173, Tryz.ntmps173
  go_wp2_with fail
  generalize ((w.alloc (Obj.cells #[.slice ab lb cb, .bool b'] 72)).alloc (Obj.cells #[.slice none 0 0, .bool false] 72)).alloc (Obj.cells #[.slice none 0 0, .bool false] 72) = W at *
  refine (nsign_any W _ y K (by omega) (hb.below hB)).mono ?_
  rintro e w1 ⟨rfl, hb1⟩
  obtain ⟨s, hs⟩ : ∃ s, signZ y = s := ⟨_, rfl⟩
  have hs0 : s ≠ 0 := by rw [← hs]; exact HS.out
  rw [hs]
  clear hs HS
  have x1 := box_below hb1 hx (lt_of_block hx)
  have y1 := box_below hb1 hy (lt_of_block hy)
  have y2 := box_below hb1 hy' (lt_of_block hy')
  have t1 := two_cell0 x1
  have t2 := two_cell1 x1
  have C1 := chain2 hB hb1
  have ha1 := ha.below C1
  have hb1' := hb.below C1
  clear hx hy hy' hb1 hB ha hb
  go_wp2_with fail
  refine (ncut_any w1 _ _ x y K hK ha1 hb1' h0).mono ?_
  rintro e w2 ⟨⟨q, r, rfl, ⟨p1, l1, c1, rfl, m1⟩, ⟨p2, l2, c2, rfl, m2⟩⟩, hb2⟩
  obtain ⟨d1, hd1⟩ : ∃ d1, decide (x.tdiv y < 0) = d1 := ⟨_, rfl⟩
  obtain ⟨d2, hd2⟩ : ∃ d2, decide (x.tmod y < 0) = d2 := ⟨_, rfl⟩
  rw [hd1, hd2]
  have HD := hid (And.intro hd1 hd2)
  have X2 := boxed2 hb2 (Obj.cells #[.slice p1 l1 c1, .bool d1] 72) (Obj.cells #[.slice p2 l2 c2, .bool d2] 72)
  have Y2 := boxed2 (Below.refl w2.heap.size w2) (Obj.cells #[.slice p1 l1 c1, .bool d1] 72) (Obj.cells #[.slice p2 l2 c2, .bool d2] 72)
  have z5 := boxed2_first w2 (Obj.cells #[.slice p1 l1 c1, .bool d1] 72) (Obj.cells #[.slice p2 l2 c2, .bool d2] 72)
  have z6 := boxed2_second w2 (Obj.cells #[.slice p1 l1 c1, .bool d1] 72) (Obj.cells #[.slice p2 l2 c2, .bool d2] 72)
  have z3 := box_below X2 y1 (lt_of_block y1)
  have z4 := box_below X2 y2 (lt_of_block y2)
  have hl2 := lt_of_block (box_below hb2 y2 (lt_of_block y2))
  have C2 := chain2 C1 X2
  have m1 := m1.below Y2
  have m2 := m2.below Y2
  have HE := hid (And.intro (rfl : x.tdiv y = x.tdiv y) (rfl : x.tmod y = x.tmod y))
  clear hd1 hd2 X2 Y2 hb2 y1 y2 t1 t2 x1 ha1 hb1' C1
  go_wp2
  generalize (w2.alloc (Obj.cells #[.slice p1 l1 c1, .bool d1] 72)).alloc (Obj.cells #[.slice p2 l2 c2, .bool d2] 72) = XX at *
  have f0 := two_cell0 z5
  have f1 := two_cell1 z5
  have f2 := two_cell0 z6
  have f3 := two_cell1 z6
  have g0 := two_cell0 z3
  have g1 := two_cell1 z3
  have g2 := two_free (k := 0) z3
  have g3 := two_free (k := 1) z3
  have g4 := two_cell0 z4
  have g5 := two_cell1 z4
  have g6 := two_free (k := 0) z4
  have g7 := two_free (k := 1) z4
  obtain ⟨o1, o2, o3, o4, o5, o6, o7⟩ := ndiv_out C2 (show w.heap.size ≤ w.heap.size + 1 by omega) (show w.heap.size ≤ w.heap.size + 1 + 1 by omega) (by omega) z3 z4 m1 m2 _ rfl (x1 := .bool d1) (x2 := .bool d2)
  have HO := hid (And.intro o1 (And.intro o2 o3))
  have HC := hid (And.intro o4 (And.intro o5 (And.intro o6 o7)))
  clear o1 o2 o3 o4 o5 o6 o7
  have ne1 : w2.heap.size ≠ w.heap.size + 1 := by omega
  have ne2 : w2.heap.size ≠ w.heap.size + 1 + 1 := by omega
  have ne3 : w2.heap.size + 1 ≠ w.heap.size + 1 := by omega
  have ne4 : w2.heap.size + 1 ≠ w.heap.size + 1 + 1 := by omega
  go_region
  all_goals
    clear f0 f1 f2 f3 g0 g1 g2 g3 g4 g5 g6 g7
    generalize ((((XX.setCell ⟨w.heap.size + 1, 0, none⟩ (Value.slice p1 l1 c1)).setCell ⟨w.heap.size + 1, 1, none⟩ (Value.bool d1)).setCell ⟨w.heap.size + 1 + 1, 0, none⟩ (Value.slice p2 l2 c2)).setCell ⟨w.heap.size + 1 + 1, 1, none⟩ (Value.bool d2)) = Z at *
    have HC' : Hid (Z.drew.cell? ⟨w.heap.size + 1, 0, none⟩ = some (Value.slice p1 l1 c1) ∧ Z.drew.cell? ⟨w.heap.size + 1, 1, none⟩ = some (Value.bool d1) ∧ Z.drew.cell? ⟨w.heap.size + 1 + 1, 0, none⟩ = some (Value.slice p2 l2 c2) ∧ Z.drew.cell? ⟨w.heap.size + 1 + 1, 1, none⟩ = some (Value.bool d2)) := HC
    go_wp2
    refine bodyPost_ret (v := .tuple #[.agg #[.slice p1 l1 c1, .bool d1], .agg #[.slice p2 l2 c2, .bool d2], .int .i64 0]) (by simp [results, Tryz.results173, go_sem, HC'.out.1, HC'.out.2.1, HC'.out.2.2.1, HC'.out.2.2.2]) rfl ⟨⟨_, _, rfl, ⟨p1, l1, c1, by rw [HD.out.1], (HO.out.1.below (Below.refl _ _).drew).mono (by omega)⟩, ⟨p2, l2, c2, by rw [HD.out.2], (HO.out.2.1.below (Below.refl _ _).drew).mono (by omega)⟩⟩, HO.out.2.2.drew⟩
set_option maxHeartbeats 1000000 in
theorem ndivided_zero (w : World) (f : Value) (b : Value) (K : Nat) (hK : K ≤ 400000000) (hb : NumIs w b 0 K) :
    Calls Tryz.prog 173 #[f, b] w fun e w' => e = .returned (.tuple #[.agg #[.slice none 0 0, .bool false], .agg #[.slice none 0 0, .bool false], .int .i64 12]) ∧ Below w.heap.size w w' := by
  have Nb := hb
  obtain ⟨ab, lb, cb, rfl, nb⟩ := hb
  rw [show decide ((0 : Int) < 0) = false from rfl] at Nb ⊢
  have hB := boxed3 (Below.refl w.heap.size w) (Obj.cells #[.slice ab lb cb, .bool false] 72) (Obj.cells #[.slice none 0 0, .bool false] 72) (Obj.cells #[.slice none 0 0, .bool false] 72)
  have hy := boxed3_second w (Obj.cells #[.slice ab lb cb, .bool false] 72) (Obj.cells #[.slice none 0 0, .bool false] 72) (Obj.cells #[.slice none 0 0, .bool false] 72)
  have hy' := boxed3_third w (Obj.cells #[.slice ab lb cb, .bool false] 72) (Obj.cells #[.slice none 0 0, .bool false] 72) (Obj.cells #[.slice none 0 0, .bool false] 72)
  go_enter Tryz.func173, Tryz.ntmps173
  go_wp2_with fail
  generalize ((w.alloc (Obj.cells #[.slice ab lb cb, .bool false] 72)).alloc (Obj.cells #[.slice none 0 0, .bool false] 72)).alloc (Obj.cells #[.slice none 0 0, .bool false] 72) = W at *
  refine (nsign_any W _ 0 K (by omega) (Nb.below hB)).mono ?_
  rintro e w1 ⟨rfl, hb1⟩
  rw [show signZ 0 = 0 from rfl]
  have y1 := box_below hb1 hy (lt_of_block hy)
  have y2 := box_below hb1 hy' (lt_of_block hy')
  have C1 := chain2 hB hb1
  have g0 := two_cell0 y1
  have g1 := two_cell1 y1
  have g2 := two_free (k := 0) y1
  have g3 := two_free (k := 1) y1
  have g4 := two_cell0 y2
  have g5 := two_cell1 y2
  have g6 := two_free (k := 0) y2
  have g7 := two_free (k := 1) y2
  obtain ⟨o1, o2, o3, o4, o5, o6, o7⟩ := ndiv_out C1 (show w.heap.size ≤ w.heap.size + 1 by omega) (show w.heap.size ≤ w.heap.size + 1 + 1 by omega) (by omega) y1 y2 (nat_zero w1) (nat_zero w1) _ rfl (x1 := .bool false) (x2 := .bool false)
  have HC := hid (And.intro o3 (And.intro o4 (And.intro o5 (And.intro o6 o7))))
  clear o1 o2 o3 o4 o5 o6 o7 y1 y2 hy hy' hb1
  go_wp2
  exact bodyPost_ret (v := .tuple #[.agg #[.slice none 0 0, .bool false], .agg #[.slice none 0 0, .bool false], .int .i64 12]) (by simp [results, Tryz.results173, go_sem, HC.out.2.1, HC.out.2.2.1, HC.out.2.2.2.1, HC.out.2.2.2.2]) rfl ⟨rfl, HC.out.1⟩
set_option maxHeartbeats 1000000 in
theorem nquo_any (w : World) (a b : Value) (x y : Int) (K : Nat) (hK : K ≤ 400000000) (ha : NumIs w a x K) (hb : NumIs w b y K) (h0 : y ≠ 0) :
    Calls Tryz.prog 142 #[a, b] w fun e w' => (∃ q r, e = .returned (.tuple #[q, r, .int .i64 0]) ∧ NumIs w' q (x.tdiv y) K ∧ NumIs w' r (x.tmod y) K) ∧ Below w.heap.size w w' := by
  have Na := ha
  have Nb := hb
  obtain ⟨aa, la, ca, rfl, na⟩ := ha
  obtain ⟨ab, lb, cb, rfl, nb⟩ := hb
  obtain ⟨hB, hx, hz, hy, hy', s4⟩ := boxed4 w (Obj.cells #[.slice aa la ca, .bool (decide (x < 0))] 72) (Obj.cells #[.slice ab lb cb, .bool (decide (y < 0))] 72) (Obj.cells #[.slice none 0 0, .bool false] 72) (Obj.cells #[.slice none 0 0, .bool false] 72)
  go_enter Tryz.func142, Tryz.ntmps142
  go_wp2_with fail
  generalize (((w.alloc (Obj.cells #[.slice aa la ca, .bool (decide (x < 0))] 72)).alloc (Obj.cells #[.slice ab lb cb, .bool (decide (y < 0))] 72)).alloc (Obj.cells #[.slice none 0 0, .bool false] 72)).alloc (Obj.cells #[.slice none 0 0, .bool false] 72) = W at *
  refine (ndivided_cut W aa ab la ca lb cb x y K hK (Na.below hB) (Nb.below hB) h0).mono ?_
  rintro e w1 ⟨⟨q, r, rfl, ⟨p1, l1, c1, rfl, m1⟩, ⟨p2, l2, c2, rfl, m2⟩⟩, hb1⟩
  have y1 := box_below hb1 hy (lt_of_block hy)
  have y2 := box_below hb1 hy' (lt_of_block hy')
  have g0 := two_cell0 y1
  have g1 := two_cell1 y1
  have g2 := two_free (k := 0) y1
  have g3 := two_free (k := 1) y1
  have g4 := two_cell0 y2
  have g5 := two_cell1 y2
  have g6 := two_free (k := 0) y2
  have g7 := two_free (k := 1) y2
  obtain ⟨o1, o2, o3, o4, o5, o6, o7⟩ := ndiv_out (chain2 hB hb1) (show w.heap.size ≤ w.heap.size + 1 + 1 by omega) (show w.heap.size ≤ w.heap.size + 1 + 1 + 1 by omega) (by omega) y1 y2 m1 m2 _ rfl (x1 := .bool (decide (x.tdiv y < 0))) (x2 := .bool (decide (x.tmod y < 0)))
  have HO := hid (And.intro o1 (And.intro o2 o3))
  have HC := hid (And.intro o4 (And.intro o5 (And.intro o6 o7)))
  clear o1 o2 o3 o4 o5 o6 o7 y1 y2 hx hz hy hy' hb1
  obtain ⟨d1, hd1⟩ : ∃ d1, decide (x.tdiv y < 0) = d1 := ⟨_, rfl⟩
  obtain ⟨d2, hd2⟩ : ∃ d2, decide (x.tmod y < 0) = d2 := ⟨_, rfl⟩
  rw [hd1, hd2] at HO HC ⊢
  have HD := hid (And.intro hd1 hd2)
  clear hd1 hd2
  go_wp2
  exact bodyPost_ret (v := .tuple #[.agg #[.slice p1 l1 c1, .bool d1], .agg #[.slice p2 l2 c2, .bool d2], .int .i64 0]) (by simp [results, Tryz.results142, go_sem, HC.out.1, HC.out.2.1, HC.out.2.2.1, HC.out.2.2.2]) rfl ⟨⟨_, _, rfl, ⟨p1, l1, c1, by rw [HD.out.1], HO.out.1⟩, ⟨p2, l2, c2, by rw [HD.out.2], HO.out.2.1⟩⟩, HO.out.2.2⟩
set_option maxHeartbeats 1000000 in
theorem nquo_zero (w : World) (a b : Value) (x : Int) (K : Nat) (hK : K ≤ 400000000) (ha : NumIs w a x K) (hb : NumIs w b 0 K) :
    Calls Tryz.prog 142 #[a, b] w fun e w' => e = .returned (.tuple #[.agg #[.slice none 0 0, .bool false], .agg #[.slice none 0 0, .bool false], .int .i64 12]) ∧ Below w.heap.size w w' := by
  have Nb := hb
  obtain ⟨aa, la, ca, rfl, na⟩ := ha
  obtain ⟨ab, lb, cb, rfl, nb⟩ := hb
  rw [show decide ((0 : Int) < 0) = false from rfl] at Nb ⊢
  generalize decide (x < 0) = b at *
  obtain ⟨hB, hx, hz, hy, hy', s4⟩ := boxed4 w (Obj.cells #[.slice aa la ca, .bool b] 72) (Obj.cells #[.slice ab lb cb, .bool false] 72) (Obj.cells #[.slice none 0 0, .bool false] 72) (Obj.cells #[.slice none 0 0, .bool false] 72)
  go_enter Tryz.func142, Tryz.ntmps142
  go_wp2_with fail
  generalize (((w.alloc (Obj.cells #[.slice aa la ca, .bool b] 72)).alloc (Obj.cells #[.slice ab lb cb, .bool false] 72)).alloc (Obj.cells #[.slice none 0 0, .bool false] 72)).alloc (Obj.cells #[.slice none 0 0, .bool false] 72) = W at *
  refine (ndivided_zero W _ _ K hK (Nb.below hB)).mono ?_
  rintro e w1 ⟨rfl, hb1⟩
  have y1 := box_below hb1 hy (lt_of_block hy)
  have y2 := box_below hb1 hy' (lt_of_block hy')
  have g0 := two_cell0 y1
  have g1 := two_cell1 y1
  have g2 := two_free (k := 0) y1
  have g3 := two_free (k := 1) y1
  have g4 := two_cell0 y2
  have g5 := two_cell1 y2
  have g6 := two_free (k := 0) y2
  have g7 := two_free (k := 1) y2
  obtain ⟨o1, o2, o3, o4, o5, o6, o7⟩ := ndiv_out (chain2 hB hb1) (show w.heap.size ≤ w.heap.size + 1 + 1 by omega) (show w.heap.size ≤ w.heap.size + 1 + 1 + 1 by omega) (by omega) y1 y2 (nat_zero w1) (nat_zero w1) _ rfl (x1 := .bool false) (x2 := .bool false)
  have HC := hid (And.intro o3 (And.intro o4 (And.intro o5 (And.intro o6 o7))))
  clear o1 o2 o3 o4 o5 o6 o7 y1 y2 hx hz hy hy' hb1
  go_wp2
  exact bodyPost_ret (v := .tuple #[.agg #[.slice none 0 0, .bool false], .agg #[.slice none 0 0, .bool false], .int .i64 12]) (by simp [results, Tryz.results142, go_sem, HC.out.2.1, HC.out.2.2.1, HC.out.2.2.2.1, HC.out.2.2.2.2]) rfl ⟨rfl, HC.out.1⟩
end Go.Proofs.YtbmdoncdgopoaaaGreatDoor
