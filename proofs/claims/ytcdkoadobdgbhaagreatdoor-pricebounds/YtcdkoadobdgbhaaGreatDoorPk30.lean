/- NFloor, NQuo. -/
import Derived.Test.YtcdkoadobdgbhaaGreatDoorZNDiv
import Derived.Test.YtcdkoadobdgbhaaGreatDoorPk7
/- Whole numbers: the quotient that is rounded down. -/
namespace Go.Proofs.YtcdkoadobdgbhaaGreatDoor
open Go.RowKit
set_option linter.unusedVariables false
set_option maxRecDepth 100000
set_option linter.unusedSimpArgs false
attribute [local go_sem ↓] Go.wp_at_zero Go.wp_at_succ

theorem signZ_ne {y : Int} (h : y ≠ 0) : signZ y ≠ 0 := by
  unfold signZ
  repeat' split
  all_goals omega
end Go.Proofs.YtcdkoadobdgbhaaGreatDoor
/- Whole numbers: both ways of dividing, kept from a divisor of 0. -/
namespace Go.Proofs.YtcdkoadobdgbhaaGreatDoor
open Go.RowKit
set_option linter.unusedVariables false
set_option maxRecDepth 100000
set_option linter.unusedSimpArgs false
attribute [local go_sem ↓] Go.wp_at_zero Go.wp_at_succ

set_option maxHeartbeats 2000000 in
theorem ndivided_cut (w : World) (aa ab : Option Addr) (la ca lb cb : Nat) (x y : Int) (K : Nat) (hK : K ≤ 400000000) (ha : NumIs w (.agg #[.slice aa la ca, .bool (decide (x < 0))]) x K) (hb : NumIs w (.agg #[.slice ab lb cb, .bool (decide (y < 0))]) y K) (h0 : y ≠ 0) :
    Calls Tryz.prog 198 #[.func (Fn.func 199) #[.agg #[.slice aa la ca, .bool (decide (x < 0))]] #[], .agg #[.slice ab lb cb, .bool (decide (y < 0))]] w fun e w' => (∃ q r, e = .returned (.tuple #[q, r, .int .i64 0]) ∧ NumIs w' q (x.tdiv y) K ∧ NumIs w' r (x.tmod y) K) ∧ Below w.heap.size w w' := by
  have HS := hid (signZ_ne h0)
  generalize decide (x < 0) = b at *
  generalize decide (y < 0) = b' at *
  have hx := boxed3_first w (Obj.cells #[.slice ab lb cb, .bool b'] 71) (Obj.cells #[.slice none 0 0, .bool false] 71) (Obj.cells #[.slice none 0 0, .bool false] 71)
  have hy := boxed3_second w (Obj.cells #[.slice ab lb cb, .bool b'] 71) (Obj.cells #[.slice none 0 0, .bool false] 71) (Obj.cells #[.slice none 0 0, .bool false] 71)
  have hy' := boxed3_third w (Obj.cells #[.slice ab lb cb, .bool b'] 71) (Obj.cells #[.slice none 0 0, .bool false] 71) (Obj.cells #[.slice none 0 0, .bool false] 71)
  have hB := boxed3 (Below.refl w.heap.size w) (Obj.cells #[.slice ab lb cb, .bool b'] 71) (Obj.cells #[.slice none 0 0, .bool false] 71) (Obj.cells #[.slice none 0 0, .bool false] 71)
  go_enter Tryz.func198, Tryz.ntmps198
  go_wp2_with fail
  generalize ((w.alloc (Obj.cells #[.slice ab lb cb, .bool b'] 71)).alloc (Obj.cells #[.slice none 0 0, .bool false] 71)).alloc (Obj.cells #[.slice none 0 0, .bool false] 71) = W at *
  refine (nsign_any W _ y K (by omega) (hb.below hB)).mono ?_
  rintro e w1 ⟨rfl, hb1⟩
  obtain ⟨s, hs⟩ : ∃ s, signZ y = s := ⟨_, rfl⟩
  have hs0 : s ≠ 0 := by rw [← hs]; exact HS.out
  rw [hs]
  clear hs HS
  have x1 := box_below hb1 hx (lt_of_block hx)
  have y1 := box_below hb1 hy (lt_of_block hy)
  have y2 := box_below hb1 hy' (lt_of_block hy')
  have t1 := two_cell0 x1
  have t2 := two_cell1 x1
  have C1 := chain2 hB hb1
  have ha1 := ha.below C1
  have hb1' := hb.below C1
  clear hx hy hy' hb1 hB ha hb
  go_wp2_with fail
  refine (ncut_any w1 _ _ x y K hK ha1 hb1' h0).mono ?_
  rintro e w2 ⟨⟨q, r, rfl, ⟨p1, l1, c1, rfl, m1⟩, ⟨p2, l2, c2, rfl, m2⟩⟩, hb2⟩
  obtain ⟨d1, hd1⟩ : ∃ d1, decide (x.tdiv y < 0) = d1 := ⟨_, rfl⟩
  obtain ⟨d2, hd2⟩ : ∃ d2, decide (x.tmod y < 0) = d2 := ⟨_, rfl⟩
  rw [hd1, hd2]
  have HD := hid (And.intro hd1 hd2)
  have X2 := boxed2 hb2 (Obj.cells #[.slice p1 l1 c1, .bool d1] 71) (Obj.cells #[.slice p2 l2 c2, .bool d2] 71)
  have Y2 := boxed2 (Below.refl w2.heap.size w2) (Obj.cells #[.slice p1 l1 c1, .bool d1] 71) (Obj.cells #[.slice p2 l2 c2, .bool d2] 71)
  have z5 := boxed2_first w2 (Obj.cells #[.slice p1 l1 c1, .bool d1] 71) (Obj.cells #[.slice p2 l2 c2, .bool d2] 71)
  have z6 := boxed2_second w2 (Obj.cells #[.slice p1 l1 c1, .bool d1] 71) (Obj.cells #[.slice p2 l2 c2, .bool d2] 71)
  have z3 := box_below X2 y1 (lt_of_block y1)
  have z4 := box_below X2 y2 (lt_of_block y2)
  have hl2 := lt_of_block (box_below hb2 y2 (lt_of_block y2))
  have C2 := chain2 C1 X2
  have m1 := m1.below Y2
  have m2 := m2.below Y2
  have HE := hid (And.intro (rfl : x.tdiv y = x.tdiv y) (rfl : x.tmod y = x.tmod y))
  clear hd1 hd2 X2 Y2 hb2 y1 y2 t1 t2 x1 ha1 hb1' C1
  go_wp2
  generalize (w2.alloc (Obj.cells #[.slice p1 l1 c1, .bool d1] 71)).alloc (Obj.cells #[.slice p2 l2 c2, .bool d2] 71) = XX at *
  have f0 := two_cell0 z5
  have f1 := two_cell1 z5
  have f2 := two_cell0 z6
  have f3 := two_cell1 z6
  have g0 := two_cell0 z3
  have g1 := two_cell1 z3
  have g2 := two_free (k := 0) z3
  have g3 := two_free (k := 1) z3
  have g4 := two_cell0 z4
  have g5 := two_cell1 z4
  have g6 := two_free (k := 0) z4
  have g7 := two_free (k := 1) z4
  obtain ⟨o1, o2, o3, o4, o5, o6, o7⟩ := ndiv_out C2 (show w.heap.size ≤ w.heap.size + 1 by omega) (show w.heap.size ≤ w.heap.size + 1 + 1 by omega) (by omega) z3 z4 m1 m2 _ rfl (x1 := .bool d1) (x2 := .bool d2)
  have HO := hid (And.intro o1 (And.intro o2 o3))
  have HC := hid (And.intro o4 (And.intro o5 (And.intro o6 o7)))
  clear o1 o2 o3 o4 o5 o6 o7
  have ne1 : w2.heap.size ≠ w.heap.size + 1 := by omega
  have ne2 : w2.heap.size ≠ w.heap.size + 1 + 1 := by omega
  have ne3 : w2.heap.size + 1 ≠ w.heap.size + 1 := by omega
  have ne4 : w2.heap.size + 1 ≠ w.heap.size + 1 + 1 := by omega
  go_region
  all_goals
    clear f0 f1 f2 f3 g0 g1 g2 g3 g4 g5 g6 g7
    generalize ((((XX.setCell ⟨w.heap.size + 1, 0, none⟩ (Value.slice p1 l1 c1)).setCell ⟨w.heap.size + 1, 1, none⟩ (Value.bool d1)).setCell ⟨w.heap.size + 1 + 1, 0, none⟩ (Value.slice p2 l2 c2)).setCell ⟨w.heap.size + 1 + 1, 1, none⟩ (Value.bool d2)) = Z at *
    have HC' : Hid (Z.drew.cell? ⟨w.heap.size + 1, 0, none⟩ = some (Value.slice p1 l1 c1) ∧ Z.drew.cell? ⟨w.heap.size + 1, 1, none⟩ = some (Value.bool d1) ∧ Z.drew.cell? ⟨w.heap.size + 1 + 1, 0, none⟩ = some (Value.slice p2 l2 c2) ∧ Z.drew.cell? ⟨w.heap.size + 1 + 1, 1, none⟩ = some (Value.bool d2)) := HC
    go_wp2
    refine bodyPost_ret (v := .tuple #[.agg #[.slice p1 l1 c1, .bool d1], .agg #[.slice p2 l2 c2, .bool d2], .int .i64 0]) (by simp [results, Tryz.results198, go_sem, HC'.out.1, HC'.out.2.1, HC'.out.2.2.1, HC'.out.2.2.2]) rfl ⟨⟨_, _, rfl, ⟨p1, l1, c1, by rw [HD.out.1], (HO.out.1.below (Below.refl _ _).drew).mono (by omega)⟩, ⟨p2, l2, c2, by rw [HD.out.2], (HO.out.2.1.below (Below.refl _ _).drew).mono (by omega)⟩⟩, HO.out.2.2.drew⟩
set_option maxHeartbeats 1000000 in
theorem nquo_any (w : World) (a b : Value) (x y : Int) (K : Nat) (hK : K ≤ 400000000) (ha : NumIs w a x K) (hb : NumIs w b y K) (h0 : y ≠ 0) :
    Calls Tryz.prog 178 #[a, b] w fun e w' => (∃ q r, e = .returned (.tuple #[q, r, .int .i64 0]) ∧ NumIs w' q (x.tdiv y) K ∧ NumIs w' r (x.tmod y) K) ∧ Below w.heap.size w w' := by
  have Na := ha
  have Nb := hb
  obtain ⟨aa, la, ca, rfl, na⟩ := ha
  obtain ⟨ab, lb, cb, rfl, nb⟩ := hb
  obtain ⟨hB, hx, hz, hy, hy', s4⟩ := boxed4 w (Obj.cells #[.slice aa la ca, .bool (decide (x < 0))] 71) (Obj.cells #[.slice ab lb cb, .bool (decide (y < 0))] 71) (Obj.cells #[.slice none 0 0, .bool false] 71) (Obj.cells #[.slice none 0 0, .bool false] 71)
  go_enter Tryz.func178, Tryz.ntmps178
  go_wp2_with fail
  generalize (((w.alloc (Obj.cells #[.slice aa la ca, .bool (decide (x < 0))] 71)).alloc (Obj.cells #[.slice ab lb cb, .bool (decide (y < 0))] 71)).alloc (Obj.cells #[.slice none 0 0, .bool false] 71)).alloc (Obj.cells #[.slice none 0 0, .bool false] 71) = W at *
  refine (ndivided_cut W aa ab la ca lb cb x y K hK (Na.below hB) (Nb.below hB) h0).mono ?_
  rintro e w1 ⟨⟨q, r, rfl, ⟨p1, l1, c1, rfl, m1⟩, ⟨p2, l2, c2, rfl, m2⟩⟩, hb1⟩
  have y1 := box_below hb1 hy (lt_of_block hy)
  have y2 := box_below hb1 hy' (lt_of_block hy')
  have g0 := two_cell0 y1
  have g1 := two_cell1 y1
  have g2 := two_free (k := 0) y1
  have g3 := two_free (k := 1) y1
  have g4 := two_cell0 y2
  have g5 := two_cell1 y2
  have g6 := two_free (k := 0) y2
  have g7 := two_free (k := 1) y2
  obtain ⟨o1, o2, o3, o4, o5, o6, o7⟩ := ndiv_out (chain2 hB hb1) (show w.heap.size ≤ w.heap.size + 1 + 1 by omega) (show w.heap.size ≤ w.heap.size + 1 + 1 + 1 by omega) (by omega) y1 y2 m1 m2 _ rfl (x1 := .bool (decide (x.tdiv y < 0))) (x2 := .bool (decide (x.tmod y < 0)))
  have HO := hid (And.intro o1 (And.intro o2 o3))
  have HC := hid (And.intro o4 (And.intro o5 (And.intro o6 o7)))
  clear o1 o2 o3 o4 o5 o6 o7 y1 y2 hx hz hy hy' hb1
  obtain ⟨d1, hd1⟩ : ∃ d1, decide (x.tdiv y < 0) = d1 := ⟨_, rfl⟩
  obtain ⟨d2, hd2⟩ : ∃ d2, decide (x.tmod y < 0) = d2 := ⟨_, rfl⟩
  rw [hd1, hd2] at HO HC ⊢
  have HD := hid (And.intro hd1 hd2)
  clear hd1 hd2
  go_wp2
  exact bodyPost_ret (v := .tuple #[.agg #[.slice p1 l1 c1, .bool d1], .agg #[.slice p2 l2 c2, .bool d2], .int .i64 0]) (by simp [results, Tryz.results178, go_sem, HC.out.1, HC.out.2.1, HC.out.2.2.1, HC.out.2.2.2]) rfl ⟨⟨_, _, rfl, ⟨p1, l1, c1, by rw [HD.out.1], HO.out.1⟩, ⟨p2, l2, c2, by rw [HD.out.2], HO.out.2.1⟩⟩, HO.out.2.2⟩
end Go.Proofs.YtcdkoadobdgbhaaGreatDoor
