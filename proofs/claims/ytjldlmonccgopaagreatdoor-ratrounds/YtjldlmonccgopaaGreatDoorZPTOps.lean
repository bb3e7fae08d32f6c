/- The document's fractions: made, Mul, Div, Add, Sub, Cmp. -/
import Derived.Test.YtjldlmonccgopaaGreatDoorPk37
namespace Go.Proofs.YtjldlmonccgopaaGreatDoor
open Go.RowKit
set_option linter.unusedVariables false
set_option maxRecDepth 100000
set_option linter.unusedSimpArgs false
attribute [local go_sem ↓] Go.wp_at_zero Go.wp_at_succ

theorem trat_form {w : World} {v : Value} {n d : Int} {K : Nat} (h : TRatIs w v n d K) : ∃ a1 l1 c1 d1 a2 l2 c2 d2, v = .agg #[.bool d1, .slice a1 l1 c1, .bool d2, .slice a2 l2 c2] := by
  obtain ⟨a1, l1, c1, a2, l2, c2, m, h1, _⟩ := h
  exact ⟨a1, l1, c1, _, a2, l2, c2, _, h1⟩
set_option maxHeartbeats 4000000 in
theorem tmade_any (w : World) (a b : Value) (x y : Int) (K : Nat) (hK : K ≤ 100000000) (ha : RNumIs w a x K) (hb : RNumIs w b y K) :
    Calls Tryz.prog 76 #[a, b] w fun e w' => ∃ v, e = .returned v ∧ TRatIs w' v (mkN x y) (mkD x y) K ∧ Below w.heap.size w w' := by
  obtain ⟨a1, l1, c1, b1, rfl⟩ := rnum_form ha
  obtain ⟨a2, l2, c2, b2, rfl⟩ := rnum_form hb
  have hx := boxed3_first w (Obj.cells #[.bool b1, .slice a1 l1 c1] 34) (Obj.cells #[.bool b2, .slice a2 l2 c2] 34) (Obj.cells #[.bool false, .slice none 0 0, .bool false, .slice none 0 0] 36)
  have hy := boxed3_second w (Obj.cells #[.bool b1, .slice a1 l1 c1] 34) (Obj.cells #[.bool b2, .slice a2 l2 c2] 34) (Obj.cells #[.bool false, .slice none 0 0, .bool false, .slice none 0 0] 36)
  have hz := boxed3_third w (Obj.cells #[.bool b1, .slice a1 l1 c1] 34) (Obj.cells #[.bool b2, .slice a2 l2 c2] 34) (Obj.cells #[.bool false, .slice none 0 0, .bool false, .slice none 0 0] 36)
  have hB := boxed3 (Below.refl w.heap.size w) (Obj.cells #[.bool b1, .slice a1 l1 c1] 34) (Obj.cells #[.bool b2, .slice a2 l2 c2] 34) (Obj.cells #[.bool false, .slice none 0 0, .bool false, .slice none 0 0] 36)
  have Na := ha.below hB
  have Nb := hb.below hB
  have t1 := two_cell0 hx
  have t2 := two_cell1 hx
  have t3 := two_cell0 hy
  have t4 := two_cell1 hy
  have hle : w.heap.size ≤ w.heap.size + 1 + 1 := by omega
  go_enter Tryz.func76, Tryz.ntmps76
  go_wp2_with fail
  generalize ((w.alloc (Obj.cells #[.bool b1, .slice a1 l1 c1] 34)).alloc (Obj.cells #[.bool b2, .slice a2 l2 c2] 34)).alloc (Obj.cells #[.bool false, .slice none 0 0, .bool false, .slice none 0 0] 36) = W at *
  refine (tmake_any _ _ _ x y K hK Na Nb).mono ?_
  rintro e w2 ⟨⟨a5, l5, c5, b5, a6, l6, c6, b6, rfl, R2⟩, e2⟩
  have zr := box_below e2 hz (lt_of_block hz)
  have u2 := box_new w2 (Obj.cells #[.bool b5, .slice a5 l5 c5, .bool b6, .slice a6 l6 c6] 36)
  have e3 := (Below.refl w2.heap.size w2).alloc (Nat.le_refl _) (Obj.cells #[.bool b5, .slice a5 l5 c5, .bool b6, .slice a6 l6 c6] 36)
  have z3 := box_below e3 zr (lt_of_block zr)
  have R3 := R2.below e3
  have B3 := chain2 (chain2 hB e2) e3
  have hne : w2.heap.size ≠ w.heap.size + 1 + 1 := by have := lt_of_block zr; omega
  obtain ⟨j0, j1, j2, j3⟩ := four_cell u2
  obtain ⟨i0, i1, i2, i3⟩ := four_cell z3
  have fr := p4_free z3
  have o1 := p4_cells z3 (.bool b5) (.slice a5 l5 c5) (.bool b6) (.slice a6 l6 c6)
  have o2 := p4_below B3 hle (.bool b5) (.slice a5 l5 c5) (.bool b6) (.slice a6 l6 c6)
  have o3 := R3.keep z3 (by decide) (p4_other (.bool b5) (.slice a5 l5 c5) (.bool b6) (.slice a6 l6 c6))
  have HO := hid (And.intro o1 (And.intro o2 o3))
  clear o1 o2 o3 R2 R3
  go_wp2
  obtain ⟨⟨g0, g1, g2, g3⟩, o2, o3⟩ := HO.out
  exact bodyPost_ret (v := .agg #[.bool b5, .slice a5 l5 c5, .bool b6, .slice a6 l6 c6]) (by simp [results, Tryz.results76, go_sem, g0, g1, g2, g3]) rfl ⟨_, rfl, o3, o2⟩
set_option maxHeartbeats 8000000 in
theorem tmul_any (w : World) (a b : Value) (n1 d1 n2 d2 : Int) (K : Nat) (hK : K ≤ 1000000) (ha : TRatIs w a n1 d1 K) (hb : TRatIs w b n2 d2 K) :
    Calls Tryz.prog 43 #[a, b] w fun e w' => ∃ v, e = .returned v ∧ TRatIs w' v (mkN (n1 * n2) (d1 * d2)) (mkD (n1 * n2) (d1 * d2)) (2 * K + 6) ∧ Below w.heap.size w w' := by
  have ha0 := ha
  have hb0 := hb
  obtain ⟨a1, l1, c1, a2, l2, c2, m1, rfl, h1, _⟩ := ha
  obtain ⟨a3, l3, c3, a4, l4, c4, m2, rfl, h3, _⟩ := hb
  generalize decide (n1 < 0) = b1 at *
  generalize decide (m1 < 0) = b2 at *
  generalize decide (n2 < 0) = b3 at *
  generalize decide (m2 < 0) = b4 at *
  have hx := boxed3_first w (Obj.cells #[.bool b1, .slice a1 l1 c1, .bool b2, .slice a2 l2 c2] 36) (Obj.cells #[.bool b3, .slice a3 l3 c3, .bool b4, .slice a4 l4 c4] 36) (Obj.cells #[.bool false, .slice none 0 0, .bool false, .slice none 0 0] 36)
  have hy := boxed3_second w (Obj.cells #[.bool b1, .slice a1 l1 c1, .bool b2, .slice a2 l2 c2] 36) (Obj.cells #[.bool b3, .slice a3 l3 c3, .bool b4, .slice a4 l4 c4] 36) (Obj.cells #[.bool false, .slice none 0 0, .bool false, .slice none 0 0] 36)
  have hz := boxed3_third w (Obj.cells #[.bool b1, .slice a1 l1 c1, .bool b2, .slice a2 l2 c2] 36) (Obj.cells #[.bool b3, .slice a3 l3 c3, .bool b4, .slice a4 l4 c4] 36) (Obj.cells #[.bool false, .slice none 0 0, .bool false, .slice none 0 0] 36)
  have hB := boxed3 (Below.refl w.heap.size w) (Obj.cells #[.bool b1, .slice a1 l1 c1, .bool b2, .slice a2 l2 c2] 36) (Obj.cells #[.bool b3, .slice a3 l3 c3, .bool b4, .slice a4 l4 c4] 36) (Obj.cells #[.bool false, .slice none 0 0, .bool false, .slice none 0 0] 36)
  have Na := h1.below hB
  have Nc := h3.below hB
  have Ra := ha0.below hB
  have Rb := hb0.below hB
  clear h1 h3 ha0 hb0
  go_enter Tryz.func43, Tryz.ntmps43
  go_wp2
  generalize ((w.alloc (Obj.cells #[.bool b1, .slice a1 l1 c1, .bool b2, .slice a2 l2 c2] 36)).alloc (Obj.cells #[.bool b3, .slice a3 l3 c3, .bool b4, .slice a4 l4 c4] 36)).alloc (Obj.cells #[.bool false, .slice none 0 0, .bool false, .slice none 0 0] 36) = W at *
  obtain ⟨t1, t2, t3, t4⟩ := four_cell hx
  obtain ⟨t5, t6, t7, t8⟩ := four_cell hy
  have B0 : Below W.heap.size W W.drew := (Below.refl _ _).drew
  have ne1 : w.heap.size ≠ w.heap.size + 1 + 1 := by omega
  have ne2 : w.heap.size + 1 ≠ w.heap.size + 1 + 1 := by omega
  have hle : w.heap.size ≤ w.heap.size + 1 + 1 := by omega
  go_region_held3 (fun w' => w'.cell? ⟨w.heap.size, 0, none⟩ = some (Value.bool b1) ∧ w'.cell? ⟨w.heap.size, 1, none⟩ = some (Value.slice a1 l1 c1) ∧ w'.cell? ⟨w.heap.size, 2, none⟩ = some (Value.bool b2) ∧ w'.cell? ⟨w.heap.size, 3, none⟩ = some (Value.slice a2 l2 c2) ∧ w'.cell? ⟨w.heap.size + 1, 0, none⟩ = some (Value.bool b3) ∧ w'.cell? ⟨w.heap.size + 1, 1, none⟩ = some (Value.slice a3 l3 c3) ∧ w'.cell? ⟨w.heap.size + 1, 2, none⟩ = some (Value.bool b4) ∧ w'.cell? ⟨w.heap.size + 1, 3, none⟩ = some (Value.slice a4 l4 c4)) ((first | exact K3 | (refine keepQ t1 t2 t3 t4 t5 t6 t7 t8 ?_; first | exact B0 | exact B1 | exact B2 | exact B3 | exact B4 | exact B5))) (first
    | (have gk := B4; go_at_call 76; refine (tmade_any _ _ _ (n1 * n2) (d1 * d2) (2 * K + 6) (by omega) ((n101.below (chain2 (chain2 hb102 hb103) hb104)).mono (by omega)) (n104.mono (by omega))).mono ?_; rintro e w105 ⟨v105, rfl, n105, hb105⟩; have B5 := chain2 B4 hb105; obtain ⟨a5, l5, c5, b5, a6, l6, c6, b6, rfl⟩ := trat_form n105; have zr := box_below B5 hz (lt_of_block hz); obtain ⟨i0, i1, i2, i3⟩ := four_cell zr; have fr := p4_free zr; have K3 := p4_keepQ (keepQ t1 t2 t3 t4 t5 t6 t7 t8 B5) ne1 ne2 (.bool b5) (.slice a5 l5 c5) (.bool b6) (.slice a6 l6 c6))
    | (have gk := B3; go_at_call 77; refine (smul_any _ _ _ d1 d2 (K + 3) (K + 3) (by omega) (by omega) (n102.below hb103) n103).mono ?_; rintro e w104 ⟨v104, rfl, n104, hb104⟩; have B4 := chain2 B3 hb104)
    | (have gk := B2; go_at_call 39; refine (tden_any _ _ n2 d2 K (by omega) (Rb.below B2)).mono ?_; rintro e w103 ⟨v103, rfl, n103, hb103⟩; have B3 := chain2 B2 hb103)
    | (have gk := B1; go_at_call 39; refine (tden_any _ _ n1 d1 K (by omega) (Ra.below B1)).mono ?_; rintro e w102 ⟨v102, rfl, n102, hb102⟩; have B2 := chain2 B1 hb102)
    | (have gk := B0; go_at_call 77; refine (smul_any _ _ _ n1 n2 K K (by omega) (by omega) (Na.below B0) (Nc.below B0)).mono ?_; rintro e w101 ⟨v101, rfl, n101, hb101⟩; have B1 := chain2 B0 hb101))
  all_goals
    have o1 := p4_cells zr (.bool b5) (.slice a5 l5 c5) (.bool b6) (.slice a6 l6 c6)
    have o2 := p4_below (chain2 hB B5) hle (.bool b5) (.slice a5 l5 c5) (.bool b6) (.slice a6 l6 c6)
    have o3 := n105.keep zr (by decide) (p4_other (.bool b5) (.slice a5 l5 c5) (.bool b6) (.slice a6 l6 c6))
    have HO := hid (And.intro o1 (And.intro o2 o3))
    clear o1 o2 o3 i0 i1 i2 i3 fr zr K3
    generalize (((w105.setCell ⟨w.heap.size + 1 + 1, 0, none⟩ (.bool b5)).setCell ⟨w.heap.size + 1 + 1, 1, none⟩ (.slice a5 l5 c5)).setCell ⟨w.heap.size + 1 + 1, 2, none⟩ (.bool b6)).setCell ⟨w.heap.size + 1 + 1, 3, none⟩ (.slice a6 l6 c6) = X at *
    go_wp2
    obtain ⟨⟨g0, g1, g2, g3⟩, o2, o3⟩ := HO.out
    exact bodyPost_ret (v := .agg #[.bool b5, .slice a5 l5 c5, .bool b6, .slice a6 l6 c6]) (by simp [results, Tryz.results43, go_sem, g0, g1, g2, g3]) rfl ⟨_, rfl, o3, o2⟩
set_option maxHeartbeats 8000000 in
theorem tadd_any (w : World) (a b : Value) (n1 d1 n2 d2 : Int) (K : Nat) (hK : K ≤ 1000000) (ha : TRatIs w a n1 d1 K) (hb : TRatIs w b n2 d2 K) :
    Calls Tryz.prog 73 #[a, b] w fun e w' => ∃ v, e = .returned v ∧ TRatIs w' v (mkN (n1 * d2 + n2 * d1) (d1 * d2)) (mkD (n1 * d2 + n2 * d1) (d1 * d2)) (2 * K + 6) ∧ Below w.heap.size w w' := by
  have ha0 := ha
  have hb0 := hb
  obtain ⟨a1, l1, c1, a2, l2, c2, m1, rfl, h1, _⟩ := ha
  obtain ⟨a3, l3, c3, a4, l4, c4, m2, rfl, h3, _⟩ := hb
  generalize decide (n1 < 0) = b1 at *
  generalize decide (m1 < 0) = b2 at *
  generalize decide (n2 < 0) = b3 at *
  generalize decide (m2 < 0) = b4 at *
  have hx := boxed3_first w (Obj.cells #[.bool b1, .slice a1 l1 c1, .bool b2, .slice a2 l2 c2] 36) (Obj.cells #[.bool b3, .slice a3 l3 c3, .bool b4, .slice a4 l4 c4] 36) (Obj.cells #[.bool false, .slice none 0 0, .bool false, .slice none 0 0] 36)
  have hy := boxed3_second w (Obj.cells #[.bool b1, .slice a1 l1 c1, .bool b2, .slice a2 l2 c2] 36) (Obj.cells #[.bool b3, .slice a3 l3 c3, .bool b4, .slice a4 l4 c4] 36) (Obj.cells #[.bool false, .slice none 0 0, .bool false, .slice none 0 0] 36)
  have hz := boxed3_third w (Obj.cells #[.bool b1, .slice a1 l1 c1, .bool b2, .slice a2 l2 c2] 36) (Obj.cells #[.bool b3, .slice a3 l3 c3, .bool b4, .slice a4 l4 c4] 36) (Obj.cells #[.bool false, .slice none 0 0, .bool false, .slice none 0 0] 36)
  have hB := boxed3 (Below.refl w.heap.size w) (Obj.cells #[.bool b1, .slice a1 l1 c1, .bool b2, .slice a2 l2 c2] 36) (Obj.cells #[.bool b3, .slice a3 l3 c3, .bool b4, .slice a4 l4 c4] 36) (Obj.cells #[.bool false, .slice none 0 0, .bool false, .slice none 0 0] 36)
  have Na := h1.below hB
  have Nc := h3.below hB
  have Ra := ha0.below hB
  have Rb := hb0.below hB
  clear h1 h3 ha0 hb0
  go_enter Tryz.func73, Tryz.ntmps73
  go_wp2
  generalize ((w.alloc (Obj.cells #[.bool b1, .slice a1 l1 c1, .bool b2, .slice a2 l2 c2] 36)).alloc (Obj.cells #[.bool b3, .slice a3 l3 c3, .bool b4, .slice a4 l4 c4] 36)).alloc (Obj.cells #[.bool false, .slice none 0 0, .bool false, .slice none 0 0] 36) = W at *
  obtain ⟨t1, t2, t3, t4⟩ := four_cell hx
  obtain ⟨t5, t6, t7, t8⟩ := four_cell hy
  have B0 : Below W.heap.size W W.drew := (Below.refl _ _).drew
  have ne1 : w.heap.size ≠ w.heap.size + 1 + 1 := by omega
  have ne2 : w.heap.size + 1 ≠ w.heap.size + 1 + 1 := by omega
  have hle : w.heap.size ≤ w.heap.size + 1 + 1 := by omega
  go_region_held3 (fun w' => w'.cell? ⟨w.heap.size, 0, none⟩ = some (Value.bool b1) ∧ w'.cell? ⟨w.heap.size, 1, none⟩ = some (Value.slice a1 l1 c1) ∧ w'.cell? ⟨w.heap.size, 2, none⟩ = some (Value.bool b2) ∧ w'.cell? ⟨w.heap.size, 3, none⟩ = some (Value.slice a2 l2 c2) ∧ w'.cell? ⟨w.heap.size + 1, 0, none⟩ = some (Value.bool b3) ∧ w'.cell? ⟨w.heap.size + 1, 1, none⟩ = some (Value.slice a3 l3 c3) ∧ w'.cell? ⟨w.heap.size + 1, 2, none⟩ = some (Value.bool b4) ∧ w'.cell? ⟨w.heap.size + 1, 3, none⟩ = some (Value.slice a4 l4 c4)) ((first | exact K3 | (refine keepQ t1 t2 t3 t4 t5 t6 t7 t8 ?_; first | exact B0 | exact B1 | exact B2 | exact B3 | exact B4 | exact B5 | exact B6 | exact B7 | exact B8 | exact B9))) (first
    | (have gk := B8; go_at_call 76; refine (tmade_any _ _ _ (n1 * d2 + n2 * d1) (d1 * d2) (2 * K + 6) (by omega) ((n105.below (chain2 (chain2 hb106 hb107) hb108)).mono (by omega)) (n108.mono (by omega))).mono ?_; rintro e w109 ⟨v109, rfl, n109, hb109⟩; have B9 := chain2 B8 hb109; obtain ⟨a5, l5, c5, b5, a6, l6, c6, b6, rfl⟩ := trat_form n109; have zr := box_below B9 hz (lt_of_block hz); obtain ⟨i0, i1, i2, i3⟩ := four_cell zr; have fr := p4_free zr; have K3 := p4_keepQ (keepQ t1 t2 t3 t4 t5 t6 t7 t8 B9) ne1 ne2 (.bool b5) (.slice a5 l5 c5) (.bool b6) (.slice a6 l6 c6))
    | (have gk := B7; go_at_call 77; refine (smul_any _ _ _ d1 d2 (K + 3) (K + 3) (by omega) (by omega) (n106.below hb107) n107).mono ?_; rintro e w108 ⟨v108, rfl, n108, hb108⟩; have B8 := chain2 B7 hb108)
    | (have gk := B6; go_at_call 39; refine (tden_any _ _ n2 d2 K (by omega) (Rb.below B6)).mono ?_; rintro e w107 ⟨v107, rfl, n107, hb107⟩; have B7 := chain2 B6 hb107)
    | (have gk := B5; go_at_call 39; refine (tden_any _ _ n1 d1 K (by omega) (Ra.below B5)).mono ?_; rintro e w106 ⟨v106, rfl, n106, hb106⟩; have B6 := chain2 B5 hb106)
    | (have gk := B4; go_at_call 47; refine (sadd_any _ _ _ (n1 * d2) (n2 * d1) (K + (K + 3)) (K + (K + 3)) (by omega) (by omega) (n102.below (chain2 hb103 hb104)) n104).mono ?_; rintro e w105 ⟨v105, rfl, n105, hb105⟩; have B5 := chain2 B4 hb105)
    | (have gk := B3; go_at_call 77; refine (smul_any _ _ _ n2 d1 K (K + 3) (by omega) (by omega) (Nc.below B3) n103).mono ?_; rintro e w104 ⟨v104, rfl, n104, hb104⟩; have B4 := chain2 B3 hb104)
    | (have gk := B2; go_at_call 39; refine (tden_any _ _ n1 d1 K (by omega) (Ra.below B2)).mono ?_; rintro e w103 ⟨v103, rfl, n103, hb103⟩; have B3 := chain2 B2 hb103)
    | (have gk := B1; go_at_call 77; refine (smul_any _ _ _ n1 d2 K (K + 3) (by omega) (by omega) (Na.below B1) n101).mono ?_; rintro e w102 ⟨v102, rfl, n102, hb102⟩; have B2 := chain2 B1 hb102)
    | (have gk := B0; go_at_call 39; refine (tden_any _ _ n2 d2 K (by omega) (Rb.below B0)).mono ?_; rintro e w101 ⟨v101, rfl, n101, hb101⟩; have B1 := chain2 B0 hb101))
  all_goals
    have o1 := p4_cells zr (.bool b5) (.slice a5 l5 c5) (.bool b6) (.slice a6 l6 c6)
    have o2 := p4_below (chain2 hB B9) hle (.bool b5) (.slice a5 l5 c5) (.bool b6) (.slice a6 l6 c6)
    have o3 := n109.keep zr (by decide) (p4_other (.bool b5) (.slice a5 l5 c5) (.bool b6) (.slice a6 l6 c6))
    have HO := hid (And.intro o1 (And.intro o2 o3))
    clear o1 o2 o3 i0 i1 i2 i3 fr zr K3
    generalize (((w109.setCell ⟨w.heap.size + 1 + 1, 0, none⟩ (.bool b5)).setCell ⟨w.heap.size + 1 + 1, 1, none⟩ (.slice a5 l5 c5)).setCell ⟨w.heap.size + 1 + 1, 2, none⟩ (.bool b6)).setCell ⟨w.heap.size + 1 + 1, 3, none⟩ (.slice a6 l6 c6) = X at *
    go_wp2
    obtain ⟨⟨g0, g1, g2, g3⟩, o2, o3⟩ := HO.out
    exact bodyPost_ret (v := .agg #[.bool b5, .slice a5 l5 c5, .bool b6, .slice a6 l6 c6]) (by simp [results, Tryz.results73, go_sem, g0, g1, g2, g3]) rfl ⟨_, rfl, o3, o2⟩
set_option maxHeartbeats 8000000 in
theorem tsub_any (w : World) (a b : Value) (n1 d1 n2 d2 : Int) (K : Nat) (hK : K ≤ 1000000) (ha : TRatIs w a n1 d1 K) (hb : TRatIs w b n2 d2 K) (hK' : K + 3 ≤ 1000000) (h0 : d2 ≠ 0) :
    Calls Tryz.prog 41 #[a, b] w fun e w' => ∃ v, e = .returned v ∧ TRatIs w' v (mkN (n1 * d2 + -n2 * d1) (d1 * d2)) (mkD (n1 * d2 + -n2 * d1) (d1 * d2)) (2 * (K + 3) + 6) ∧ Below w.heap.size w w' := by
  have ha0 := ha
  have hb0 := hb
  obtain ⟨a1, l1, c1, a2, l2, c2, m1, rfl, h1, _⟩ := ha
  obtain ⟨a3, l3, c3, a4, l4, c4, m2, rfl, h3, _⟩ := hb
  generalize decide (n1 < 0) = b1 at *
  generalize decide (m1 < 0) = b2 at *
  generalize decide (n2 < 0) = b3 at *
  generalize decide (m2 < 0) = b4 at *
  have hx := boxed3_first w (Obj.cells #[.bool b1, .slice a1 l1 c1, .bool b2, .slice a2 l2 c2] 36) (Obj.cells #[.bool b3, .slice a3 l3 c3, .bool b4, .slice a4 l4 c4] 36) (Obj.cells #[.bool false, .slice none 0 0, .bool false, .slice none 0 0] 36)
  have hy := boxed3_second w (Obj.cells #[.bool b1, .slice a1 l1 c1, .bool b2, .slice a2 l2 c2] 36) (Obj.cells #[.bool b3, .slice a3 l3 c3, .bool b4, .slice a4 l4 c4] 36) (Obj.cells #[.bool false, .slice none 0 0, .bool false, .slice none 0 0] 36)
  have hz := boxed3_third w (Obj.cells #[.bool b1, .slice a1 l1 c1, .bool b2, .slice a2 l2 c2] 36) (Obj.cells #[.bool b3, .slice a3 l3 c3, .bool b4, .slice a4 l4 c4] 36) (Obj.cells #[.bool false, .slice none 0 0, .bool false, .slice none 0 0] 36)
  have hB := boxed3 (Below.refl w.heap.size w) (Obj.cells #[.bool b1, .slice a1 l1 c1, .bool b2, .slice a2 l2 c2] 36) (Obj.cells #[.bool b3, .slice a3 l3 c3, .bool b4, .slice a4 l4 c4] 36) (Obj.cells #[.bool false, .slice none 0 0, .bool false, .slice none 0 0] 36)
  have Na := h1.below hB
  have Nc := h3.below hB
  have Ra := ha0.below hB
  have Rb := hb0.below hB
  clear h1 h3 ha0 hb0
  go_enter Tryz.func41, Tryz.ntmps41
  go_wp2
  generalize ((w.alloc (Obj.cells #[.bool b1, .slice a1 l1 c1, .bool b2, .slice a2 l2 c2] 36)).alloc (Obj.cells #[.bool b3, .slice a3 l3 c3, .bool b4, .slice a4 l4 c4] 36)).alloc (Obj.cells #[.bool false, .slice none 0 0, .bool false, .slice none 0 0] 36) = W at *
  obtain ⟨t1, t2, t3, t4⟩ := four_cell hx
  obtain ⟨t5, t6, t7, t8⟩ := four_cell hy
  have B0 : Below W.heap.size W W.drew := (Below.refl _ _).drew
  have ne1 : w.heap.size ≠ w.heap.size + 1 + 1 := by omega
  have ne2 : w.heap.size + 1 ≠ w.heap.size + 1 + 1 := by omega
  have hle : w.heap.size ≤ w.heap.size + 1 + 1 := by omega
  go_region_held3 (fun w' => w'.cell? ⟨w.heap.size, 0, none⟩ = some (Value.bool b1) ∧ w'.cell? ⟨w.heap.size, 1, none⟩ = some (Value.slice a1 l1 c1) ∧ w'.cell? ⟨w.heap.size, 2, none⟩ = some (Value.bool b2) ∧ w'.cell? ⟨w.heap.size, 3, none⟩ = some (Value.slice a2 l2 c2) ∧ w'.cell? ⟨w.heap.size + 1, 0, none⟩ = some (Value.bool b3) ∧ w'.cell? ⟨w.heap.size + 1, 1, none⟩ = some (Value.slice a3 l3 c3) ∧ w'.cell? ⟨w.heap.size + 1, 2, none⟩ = some (Value.bool b4) ∧ w'.cell? ⟨w.heap.size + 1, 3, none⟩ = some (Value.slice a4 l4 c4)) ((first | exact K3 | (refine keepQ t1 t2 t3 t4 t5 t6 t7 t8 ?_; first | exact B0 | exact B1 | exact B2))) (first
    | (have gk := B1; go_at_call 73; refine (tadd_any _ _ _ n1 d1 (-n2) d2 (K + 3) (by omega) ((Ra.below B1).mono (by omega)) n101).mono ?_; rintro e w102 ⟨v102, rfl, n102, hb102⟩; have B2 := chain2 B1 hb102; obtain ⟨a5, l5, c5, b5, a6, l6, c6, b6, rfl⟩ := trat_form n102; have zr := box_below B2 hz (lt_of_block hz); obtain ⟨i0, i1, i2, i3⟩ := four_cell zr; have fr := p4_free zr; have K3 := p4_keepQ (keepQ t1 t2 t3 t4 t5 t6 t7 t8 B2) ne1 ne2 (.bool b5) (.slice a5 l5 c5) (.bool b6) (.slice a6 l6 c6))
    | (have gk := B0; go_at_call 74; refine (tneg_any _ _ n2 d2 K (by omega) h0 (Rb.below B0)).mono ?_; rintro e w101 ⟨v101, rfl, n101, hb101⟩; have B1 := chain2 B0 hb101))
  all_goals
    have o1 := p4_cells zr (.bool b5) (.slice a5 l5 c5) (.bool b6) (.slice a6 l6 c6)
    have o2 := p4_below (chain2 hB B2) hle (.bool b5) (.slice a5 l5 c5) (.bool b6) (.slice a6 l6 c6)
    have o3 := n102.keep zr (by decide) (p4_other (.bool b5) (.slice a5 l5 c5) (.bool b6) (.slice a6 l6 c6))
    have HO := hid (And.intro o1 (And.intro o2 o3))
    clear o1 o2 o3 i0 i1 i2 i3 fr zr K3
    generalize (((w102.setCell ⟨w.heap.size + 1 + 1, 0, none⟩ (.bool b5)).setCell ⟨w.heap.size + 1 + 1, 1, none⟩ (.slice a5 l5 c5)).setCell ⟨w.heap.size + 1 + 1, 2, none⟩ (.bool b6)).setCell ⟨w.heap.size + 1 + 1, 3, none⟩ (.slice a6 l6 c6) = X at *
    go_wp2
    obtain ⟨⟨g0, g1, g2, g3⟩, o2, o3⟩ := HO.out
    exact bodyPost_ret (v := .agg #[.bool b5, .slice a5 l5 c5, .bool b6, .slice a6 l6 c6]) (by simp [results, Tryz.results41, go_sem, g0, g1, g2, g3]) rfl ⟨_, rfl, o3, o2⟩
set_option maxHeartbeats 8000000 in
theorem tcmp_any (w : World) (a b : Value) (n1 d1 n2 d2 : Int) (K : Nat) (hK : K ≤ 1000000) (ha : TRatIs w a n1 d1 K) (hb : TRatIs w b n2 d2 K) :
    Calls Tryz.prog 45 #[a, b] w fun e w' => e = .returned (.int .i64 (cmpZ (n1 * d2) (n2 * d1))) ∧ Below w.heap.size w w' := by
  have ha0 := ha
  have hb0 := hb
  obtain ⟨a1, l1, c1, a2, l2, c2, m1, rfl, h1, _⟩ := ha
  obtain ⟨a3, l3, c3, a4, l4, c4, m2, rfl, h3, _⟩ := hb
  generalize decide (n1 < 0) = b1 at *
  generalize decide (m1 < 0) = b2 at *
  generalize decide (n2 < 0) = b3 at *
  generalize decide (m2 < 0) = b4 at *
  have hx := boxed2_first w (Obj.cells #[.bool b1, .slice a1 l1 c1, .bool b2, .slice a2 l2 c2] 36) (Obj.cells #[.bool b3, .slice a3 l3 c3, .bool b4, .slice a4 l4 c4] 36)
  have hy := boxed2_second w (Obj.cells #[.bool b1, .slice a1 l1 c1, .bool b2, .slice a2 l2 c2] 36) (Obj.cells #[.bool b3, .slice a3 l3 c3, .bool b4, .slice a4 l4 c4] 36)
  have hB := boxed2 (Below.refl w.heap.size w) (Obj.cells #[.bool b1, .slice a1 l1 c1, .bool b2, .slice a2 l2 c2] 36) (Obj.cells #[.bool b3, .slice a3 l3 c3, .bool b4, .slice a4 l4 c4] 36)
  have Na := h1.below hB
  have Nc := h3.below hB
  have Ra := ha0.below hB
  have Rb := hb0.below hB
  clear h1 h3 ha0 hb0
  go_enter Tryz.func45, Tryz.ntmps45
  go_wp2
  generalize (w.alloc (Obj.cells #[.bool b1, .slice a1 l1 c1, .bool b2, .slice a2 l2 c2] 36)).alloc (Obj.cells #[.bool b3, .slice a3 l3 c3, .bool b4, .slice a4 l4 c4] 36) = W at *
  obtain ⟨t1, t2, t3, t4⟩ := four_cell hx
  obtain ⟨t5, t6, t7, t8⟩ := four_cell hy
  have B0 : Below W.heap.size W W.drew := (Below.refl _ _).drew
  go_region_held3 (fun w' => w'.cell? ⟨w.heap.size, 0, none⟩ = some (Value.bool b1) ∧ w'.cell? ⟨w.heap.size, 1, none⟩ = some (Value.slice a1 l1 c1) ∧ w'.cell? ⟨w.heap.size, 2, none⟩ = some (Value.bool b2) ∧ w'.cell? ⟨w.heap.size, 3, none⟩ = some (Value.slice a2 l2 c2) ∧ w'.cell? ⟨w.heap.size + 1, 0, none⟩ = some (Value.bool b3) ∧ w'.cell? ⟨w.heap.size + 1, 1, none⟩ = some (Value.slice a3 l3 c3) ∧ w'.cell? ⟨w.heap.size + 1, 2, none⟩ = some (Value.bool b4) ∧ w'.cell? ⟨w.heap.size + 1, 3, none⟩ = some (Value.slice a4 l4 c4)) ((refine keepQ t1 t2 t3 t4 t5 t6 t7 t8 ?_; first | exact B0 | exact B1 | exact B2 | exact B3 | exact B4 | exact B5)) (first
    | (have gk := B4; go_at_call 78; refine (scmp_any _ _ _ (n1 * d2) (n2 * d1) (K + (K + 3)) (K + (K + 3)) (by omega) (by omega) (n102.below (chain2 hb103 hb104)) n104).mono ?_; rintro e w105 ⟨rfl, hb105⟩; have B5 := chain2 B4 hb105)
    | (have gk := B3; go_at_call 77; refine (smul_any _ _ _ n2 d1 K (K + 3) (by omega) (by omega) (Nc.below B3) n103).mono ?_; rintro e w104 ⟨v104, rfl, n104, hb104⟩; have B4 := chain2 B3 hb104)
    | (have gk := B2; go_at_call 39; refine (tden_any _ _ n1 d1 K (by omega) (Ra.below B2)).mono ?_; rintro e w103 ⟨v103, rfl, n103, hb103⟩; have B3 := chain2 B2 hb103)
    | (have gk := B1; go_at_call 77; refine (smul_any _ _ _ n1 d2 K (K + 3) (by omega) (by omega) (Na.below B1) n101).mono ?_; rintro e w102 ⟨v102, rfl, n102, hb102⟩; have B2 := chain2 B1 hb102)
    | (have gk := B0; go_at_call 39; refine (tden_any _ _ n2 d2 K (by omega) (Rb.below B0)).mono ?_; rintro e w101 ⟨v101, rfl, n101, hb101⟩; have B1 := chain2 B0 hb101))
  all_goals
    have g9 := chain2 hB B5
    go_wp2
    go_ret
    exact ⟨rfl, g9⟩
end Go.Proofs.YtjldlmonccgopaaGreatDoor
