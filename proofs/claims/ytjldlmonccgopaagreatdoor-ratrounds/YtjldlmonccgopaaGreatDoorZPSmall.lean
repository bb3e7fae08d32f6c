/- Fractions: Of, Sign, Neg, the program's and the document's. -/
import Derived.Test.YtjldlmonccgopaaGreatDoorZPNum
namespace Go.Proofs.YtjldlmonccgopaaGreatDoor
open Go.RowKit
set_option linter.unusedVariables false
set_option maxRecDepth 100000
set_option linter.unusedSimpArgs false
attribute [local go_sem ↓] Go.wp_at_zero Go.wp_at_succ

theorem rat_of {w : World} {a1 a2 : Option Addr} {l1 c1 l2 c2 : Nat} {d1 d2 : Bool} {n d : Int} {K : Nat} (h1 : NumIs w (.agg #[.slice a1 l1 c1, .bool d1]) n K) (h2 : NumIs w (.agg #[.slice a2 l2 c2, .bool d2]) (d - 1) K) : RatIs w (.agg #[.slice a1 l1 c1, .bool d1, .slice a2 l2 c2, .bool d2]) n d K := by
  have e1 := num_bool h1
  have e2 := num_bool h2
  subst e1; subst e2
  exact ⟨a1, l1, c1, a2, l2, c2, rfl, h1, h2⟩
theorem p4_cells {w : World} {b : Nat} {y0 y1 y2 y3 : Value} {t : TypeId} (h : w.heap[b]? = some (.cells #[y0, y1, y2, y3] t (0, 0))) (x0 x1 x2 x3 : Value) : ((((w.setCell ⟨b, 0, none⟩ x0).setCell ⟨b, 1, none⟩ x1).setCell ⟨b, 2, none⟩ x2).setCell ⟨b, 3, none⟩ x3).cell? ⟨b, 0, none⟩ = some x0 ∧ ((((w.setCell ⟨b, 0, none⟩ x0).setCell ⟨b, 1, none⟩ x1).setCell ⟨b, 2, none⟩ x2).setCell ⟨b, 3, none⟩ x3).cell? ⟨b, 1, none⟩ = some x1 ∧ ((((w.setCell ⟨b, 0, none⟩ x0).setCell ⟨b, 1, none⟩ x1).setCell ⟨b, 2, none⟩ x2).setCell ⟨b, 3, none⟩ x3).cell? ⟨b, 2, none⟩ = some x2 ∧ ((((w.setCell ⟨b, 0, none⟩ x0).setCell ⟨b, 1, none⟩ x1).setCell ⟨b, 2, none⟩ x2).setCell ⟨b, 3, none⟩ x3).cell? ⟨b, 3, none⟩ = some x3 := four_cell (p4_set h x0 x1 x2 x3)
set_option maxHeartbeats 2000000 in
theorem qsign_any (w : World) (v : Value) (n d : Int) (K : Nat) (hK : K < 900000000) (h : RatIs w v n d K) :
    Calls Tryz.prog 21 #[v] w fun e w' => e = .returned (.int .i64 (signZ n)) ∧ Below w.heap.size w w' := by
  obtain ⟨a1, l1, c1, a2, l2, c2, rfl, h2, h3⟩ := h
  generalize decide (n < 0) = b1 at *
  generalize decide (d - 1 < 0) = b2 at *
  have hx := box_new w (Obj.cells #[.slice a1 l1 c1, .bool b1, .slice a2 l2 c2, .bool b2] 29)
  have hB : Below w.heap.size w (w.alloc (Obj.cells #[.slice a1 l1 c1, .bool b1, .slice a2 l2 c2, .bool b2] 29)) := (Below.refl _ _).alloc (Nat.le_refl _) _
  have Na := h2.below hB
  clear h3 h2
  obtain ⟨x0, x1, x2, x3⟩ := four_cell hx
  go_enter Tryz.func21, Tryz.ntmps21
  go_wp2_with fail
  refine (nsign_any _ _ n K (by omega) Na).mono ?_
  rintro e w2 ⟨rfl, hb2⟩
  have B2 := chain2 hB hb2
  go_wp2
  go_ret
  exact ⟨rfl, B2⟩
set_option maxHeartbeats 2000000 in
theorem qof_any (w : World) (z : Int) (h1 : -9223372036854775808 ≤ z) (h2 : z < 9223372036854775808) :
    Calls Tryz.prog 7 #[.int .i64 z] w fun e w' => ∃ v, e = .returned v ∧ RatIs w' v z 1 2 ∧ Below w.heap.size w w' := by
  have hy := box_new w (Obj.cells #[.slice none 0 0, .bool false, .slice none 0 0, .bool false] 29)
  have hB : Below w.heap.size w (w.alloc (Obj.cells #[.slice none 0 0, .bool false, .slice none 0 0, .bool false] 29)) := (Below.refl _ _).alloc (Nat.le_refl _) _
  go_enter Tryz.func7, Tryz.ntmps7
  go_wp2_with fail
  generalize w.alloc (Obj.cells #[.slice none 0 0, .bool false, .slice none 0 0, .bool false] 29) = W at *
  refine (nof_any W z h1 h2).mono ?_
  rintro e w2 ⟨v2, rfl, n2, hb2⟩
  obtain ⟨ao, lo, co, dd, rfl⟩ := num_form n2
  have y1 := box_below hb2 hy (lt_of_block hy)
  obtain ⟨i0, i1, i2, i3⟩ := four_cell y1
  have fr := p4_free y1
  have o1 := p4_cells y1 (.slice ao lo co) (.bool dd) (.slice none 0 0) (.bool false)
  have o2 := p4_below (chain2 hB hb2) (Nat.le_refl _) (.slice ao lo co) (.bool dd) (.slice none 0 0) (.bool false)
  have o3 := (rat_of n2 (d := 1) ((num_nought w2).mono (Nat.zero_le _))).keep y1 (by decide) (p4_other (.slice ao lo co) (.bool dd) (.slice none 0 0) (.bool false))
  have HO := hid (And.intro o1 (And.intro o2 o3))
  clear o1 o2 o3 n2
  go_wp2
  obtain ⟨⟨g0, g1, g2, g3⟩, o2, o3⟩ := HO.out
  exact bodyPost_ret (v := .agg #[.slice ao lo co, .bool dd, .slice none 0 0, .bool false]) (by simp [results, Tryz.results7, go_sem, g0, g1, g2, g3]) rfl ⟨_, rfl, o3, o2⟩
set_option maxHeartbeats 2000000 in
theorem tof_any (w : World) (z : Int) (h1 : -9223372036854775808 ≤ z) (h2 : z < 9223372036854775808) :
    Calls Tryz.prog 44 #[.int .i64 z] w fun e w' => ∃ v, e = .returned v ∧ TRatIs w' v z 1 3 ∧ Below w.heap.size w w' := by
  have hy := box_new w (Obj.cells #[.bool false, .slice none 0 0, .bool false, .slice none 0 0] 36)
  have hB : Below w.heap.size w (w.alloc (Obj.cells #[.bool false, .slice none 0 0, .bool false, .slice none 0 0] 36)) := (Below.refl _ _).alloc (Nat.le_refl _) _
  go_enter Tryz.func44, Tryz.ntmps44
  go_wp2_with fail
  generalize w.alloc (Obj.cells #[.bool false, .slice none 0 0, .bool false, .slice none 0 0] 36) = W at *
  refine (sof_any _ z h1 h2).mono ?_
  rintro e w2 ⟨v2, rfl, n2, B1⟩
  obtain ⟨a2, l2, c2, d2, rfl⟩ := rnum_form n2
  go_wp2_with fail
  refine (sof_any _ 1 (by omega) (by omega)).mono ?_
  rintro e w3 ⟨v3, rfl, n3, b3⟩
  obtain ⟨a3, l3, c3, d3, rfl⟩ := rnum_form n3
  have B3 := chain2 B1 b3
  have y3 := box_below B3 hy (lt_of_block hy)
  obtain ⟨i0, i1, i2, i3⟩ := four_cell y3
  have fr := p4_free y3
  have o1 := p4_cells y3 (.bool d2) (.slice a2 l2 c2) (.bool d3) (.slice a3 l3 c3)
  have o2 := p4_below (chain2 hB B3) (Nat.le_refl _) (.bool d2) (.slice a2 l2 c2) (.bool d3) (.slice a3 l3 c3)
  have o3 := (trat_of (n2.below b3) n3 (by omega)).keep y3 (by decide) (p4_other (.bool d2) (.slice a2 l2 c2) (.bool d3) (.slice a3 l3 c3))
  have HO := hid (And.intro o1 (And.intro o2 o3))
  clear o1 o2 o3 n2 n3
  go_wp2
  obtain ⟨⟨g0, g1, g2, g3⟩, o2, o3⟩ := HO.out
  exact bodyPost_ret (v := .agg #[.bool d2, .slice a2 l2 c2, .bool d3, .slice a3 l3 c3]) (by simp [results, Tryz.results44, go_sem, g0, g1, g2, g3]) rfl ⟨_, rfl, o3, o2⟩
set_option maxHeartbeats 4000000 in
theorem qneg_any (w : World) (v : Value) (n d : Int) (K : Nat) (hK : K < 900000000) (h : RatIs w v n d K) :
    Calls Tryz.prog 8 #[v] w fun e w' => ∃ v, e = .returned v ∧ RatIs w' v (-n) d (K + 1) ∧ Below w.heap.size w w' := by
  obtain ⟨a1, l1, c1, a2, l2, c2, rfl, h2, h3⟩ := h
  generalize decide (n < 0) = b1 at *
  generalize decide (d - 1 < 0) = b2 at *
  have hx := boxed2_first w (Obj.cells #[.slice a1 l1 c1, .bool b1, .slice a2 l2 c2, .bool b2] 29) (Obj.cells #[.slice none 0 0, .bool false, .slice none 0 0, .bool false] 29)
  have hy := boxed2_second w (Obj.cells #[.slice a1 l1 c1, .bool b1, .slice a2 l2 c2, .bool b2] 29) (Obj.cells #[.slice none 0 0, .bool false, .slice none 0 0, .bool false] 29)
  have hB := boxed2 (Below.refl w.heap.size w) (Obj.cells #[.slice a1 l1 c1, .bool b1, .slice a2 l2 c2, .bool b2] 29) (Obj.cells #[.slice none 0 0, .bool false, .slice none 0 0, .bool false] 29)
  have Na := h2.below hB
  have Nb := h3.below hB
  clear h3 h2
  go_enter Tryz.func8, Tryz.ntmps8
  go_wp2
  generalize (w.alloc (Obj.cells #[.slice a1 l1 c1, .bool b1, .slice a2 l2 c2, .bool b2] 29)).alloc (Obj.cells #[.slice none 0 0, .bool false, .slice none 0 0, .bool false] 29) = W at *
  obtain ⟨x0, x1, x2, x3⟩ := four_cell hx
  have B0 : Below W.heap.size W W.drew := (Below.refl _ _).drew
  have ne : w.heap.size ≠ w.heap.size + 1 := by omega
  go_region_held3 (fun w' => w'.cell? ⟨w.heap.size, 0, none⟩ = some (.slice a1 l1 c1) ∧ w'.cell? ⟨w.heap.size, 1, none⟩ = some (.bool b1) ∧ w'.cell? ⟨w.heap.size, 2, none⟩ = some (.slice a2 l2 c2) ∧ w'.cell? ⟨w.heap.size, 3, none⟩ = some (.bool b2)) (first | exact ⟨x0, x1, x2, x3⟩ | exact keep4' x0 x1 x2 x3 B1 | exact keep4' x0 x1 x2 x3 B3 | exact K3) (first
    | (have gk := B1; go_at_call 27; refine (qcopied_any _ _ (d - 1) K (by omega) (Nb.below B1)).mono ?_; rintro e w3 ⟨v3, rfl, n3, b3⟩; obtain ⟨a4, l4, c4, d4, rfl⟩ := num_form n3; have B3 := chain2 B1 b3; have y3 := box_below B3 hy (lt_of_block hy); obtain ⟨i0, i1, i2, i3⟩ := four_cell y3; have fr := p4_free y3; have K2 := keep4' x0 x1 x2 x3 B3; have K3 := (show _ ∧ _ ∧ _ ∧ _ from ⟨p4_keep K2.1 ne (.slice a3 l3 c3) (.bool d3) (.slice a4 l4 c4) (.bool d4), p4_keep K2.2.1 ne (.slice a3 l3 c3) (.bool d3) (.slice a4 l4 c4) (.bool d4), p4_keep K2.2.2.1 ne (.slice a3 l3 c3) (.bool d3) (.slice a4 l4 c4) (.bool d4), p4_keep K2.2.2.2 ne (.slice a3 l3 c3) (.bool d3) (.slice a4 l4 c4) (.bool d4)⟩))
    | (go_at_call 14; refine (nneg_any _ _ n K (by omega) (Na.below B0)).mono ?_; rintro e w2 ⟨v2, rfl, n2, b2'⟩; obtain ⟨a3, l3, c3, d3, rfl⟩ := num_form n2; have B1 := chain2 B0 b2'))
  all_goals
    have o1 := p4_cells y3 (.slice a3 l3 c3) (.bool d3) (.slice a4 l4 c4) (.bool d4)
    have o2 := p4_below (chain2 hB B3) (show w.heap.size ≤ w.heap.size + 1 by omega) (.slice a3 l3 c3) (.bool d3) (.slice a4 l4 c4) (.bool d4)
    have o3 := (rat_of (n2.below b3) n3).keep y3 (by decide) (p4_other (.slice a3 l3 c3) (.bool d3) (.slice a4 l4 c4) (.bool d4))
    have HO := hid (And.intro o1 (And.intro o2 o3))
    clear o1 o2 o3 n2 n3 i0 i1 i2 i3 fr y3 K2 K3
    generalize (((w3.setCell ⟨w.heap.size + 1, 0, none⟩ (.slice a3 l3 c3)).setCell ⟨w.heap.size + 1, 1, none⟩ (.bool d3)).setCell ⟨w.heap.size + 1, 2, none⟩ (.slice a4 l4 c4)).setCell ⟨w.heap.size + 1, 3, none⟩ (.bool d4) = X at *
    go_wp2
    obtain ⟨⟨g0, g1, g2, g3⟩, o2, o3⟩ := HO.out
    exact bodyPost_ret (v := .agg #[.slice a3 l3 c3, .bool d3, .slice a4 l4 c4, .bool d4]) (by simp [results, Tryz.results8, go_sem, g0, g1, g2, g3]) rfl ⟨_, rfl, o3, o2⟩
set_option maxHeartbeats 4000000 in
theorem tneg_any (w : World) (v : Value) (n d : Int) (K : Nat) (hK : K ≤ 400000000) (hd : d ≠ 0) (h : TRatIs w v n d K) :
    Calls Tryz.prog 74 #[v] w fun e w' => ∃ v, e = .returned v ∧ TRatIs w' v (-n) d (K + 3) ∧ Below w.heap.size w w' := by
  have h0 := h
  obtain ⟨a1, l1, c1, a2, l2, c2, m, rfl, h2, h3, h4⟩ := h
  generalize decide (n < 0) = b1 at *
  generalize decide (m < 0) = b2 at *
  have hx := boxed2_first w (Obj.cells #[.bool b1, .slice a1 l1 c1, .bool b2, .slice a2 l2 c2] 36) (Obj.cells #[.bool false, .slice none 0 0, .bool false, .slice none 0 0] 36)
  have hy := boxed2_second w (Obj.cells #[.bool b1, .slice a1 l1 c1, .bool b2, .slice a2 l2 c2] 36) (Obj.cells #[.bool false, .slice none 0 0, .bool false, .slice none 0 0] 36)
  have hB := boxed2 (Below.refl w.heap.size w) (Obj.cells #[.bool b1, .slice a1 l1 c1, .bool b2, .slice a2 l2 c2] 36) (Obj.cells #[.bool false, .slice none 0 0, .bool false, .slice none 0 0] 36)
  have Na := h2.below hB
  have Nb := h0.below hB
  clear h3 h2 h4 h0
  go_enter Tryz.func74, Tryz.ntmps74
  go_wp2
  generalize (w.alloc (Obj.cells #[.bool b1, .slice a1 l1 c1, .bool b2, .slice a2 l2 c2] 36)).alloc (Obj.cells #[.bool false, .slice none 0 0, .bool false, .slice none 0 0] 36) = W at *
  obtain ⟨x0, x1, x2, x3⟩ := four_cell hx
  have B0 : Below W.heap.size W W.drew := (Below.refl _ _).drew
  have ne : w.heap.size ≠ w.heap.size + 1 := by omega
  go_region_held3 (fun w' => w'.cell? ⟨w.heap.size, 0, none⟩ = some (.bool b1) ∧ w'.cell? ⟨w.heap.size, 1, none⟩ = some (.slice a1 l1 c1) ∧ w'.cell? ⟨w.heap.size, 2, none⟩ = some (.bool b2) ∧ w'.cell? ⟨w.heap.size, 3, none⟩ = some (.slice a2 l2 c2)) (first | exact ⟨x0, x1, x2, x3⟩ | exact keep4' x0 x1 x2 x3 B1 | exact keep4' x0 x1 x2 x3 B3 | exact K3) (first
    | (have gk := B1; go_at_call 39; refine (tden_any _ _ n d K (by omega) (Nb.below B1)).mono ?_; rintro e w3 ⟨v3, rfl, n3, b3⟩; obtain ⟨a4, l4, c4, d4, rfl⟩ := rnum_form n3; have B3 := chain2 B1 b3; have y3 := box_below B3 hy (lt_of_block hy); obtain ⟨i0, i1, i2, i3⟩ := four_cell y3; have fr := p4_free y3; have K2 := keep4' x0 x1 x2 x3 B3; have K3 := (show _ ∧ _ ∧ _ ∧ _ from ⟨p4_keep K2.1 ne (.bool d3) (.slice a3 l3 c3) (.bool d4) (.slice a4 l4 c4), p4_keep K2.2.1 ne (.bool d3) (.slice a3 l3 c3) (.bool d4) (.slice a4 l4 c4), p4_keep K2.2.2.1 ne (.bool d3) (.slice a3 l3 c3) (.bool d4) (.slice a4 l4 c4), p4_keep K2.2.2.2 ne (.bool d3) (.slice a3 l3 c3) (.bool d4) (.slice a4 l4 c4)⟩))
    | (go_at_call 90; refine (sneg_any _ _ n K (by omega) (Na.below B0)).mono ?_; rintro e w2 ⟨v2, rfl, n2, b2'⟩; obtain ⟨a3, l3, c3, d3, rfl⟩ := rnum_form n2; have B1 := chain2 B0 b2'))
  all_goals
    have o1 := p4_cells y3 (.bool d3) (.slice a3 l3 c3) (.bool d4) (.slice a4 l4 c4)
    have o2 := p4_below (chain2 hB B3) (show w.heap.size ≤ w.heap.size + 1 by omega) (.bool d3) (.slice a3 l3 c3) (.bool d4) (.slice a4 l4 c4)
    have o3 := (trat_of ((n2.below b3).mono (show K ≤ K + 3 by omega)) n3 hd).keep y3 (by decide) (p4_other (.bool d3) (.slice a3 l3 c3) (.bool d4) (.slice a4 l4 c4))
    have HO := hid (And.intro o1 (And.intro o2 o3))
    clear o1 o2 o3 n2 n3 i0 i1 i2 i3 fr y3 K2 K3
    generalize (((w3.setCell ⟨w.heap.size + 1, 0, none⟩ (.bool d3)).setCell ⟨w.heap.size + 1, 1, none⟩ (.slice a3 l3 c3)).setCell ⟨w.heap.size + 1, 2, none⟩ (.bool d4)).setCell ⟨w.heap.size + 1, 3, none⟩ (.slice a4 l4 c4) = X at *
    go_wp2
    obtain ⟨⟨g0, g1, g2, g3⟩, o2, o3⟩ := HO.out
    exact bodyPost_ret (v := .agg #[.bool d3, .slice a3 l3 c3, .bool d4, .slice a4 l4 c4]) (by simp [results, Tryz.results74, go_sem, g0, g1, g2, g3]) rfl ⟨_, rfl, o3, o2⟩
end Go.Proofs.YtjldlmonccgopaaGreatDoor
