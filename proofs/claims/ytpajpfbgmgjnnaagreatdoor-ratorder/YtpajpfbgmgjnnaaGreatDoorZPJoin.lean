/- Fractions: joined, Add, Sub. -/
import Derived.Test.YtpajpfbgmgjnnaaGreatDoorZPLevel
namespace Go.Proofs.YtpajpfbgmgjnnaaGreatDoor
open Go.RowKit
set_option linter.unusedVariables false
set_option maxRecDepth 100000
set_option linter.unusedSimpArgs false
attribute [local go_sem ↓] Go.wp_at_zero Go.wp_at_succ

set_option maxHeartbeats 8000000 in
theorem qjoined_add (w : World) (a b : Value) (n1 d1 n2 d2 : Int) (K : Nat) (hK : K ≤ 1000000) (ha : RatIs w a n1 d1 K) (hb : RatIs w b n2 d2 K) (h0 : d1 * d2 ≠ 0) :
    Calls Tryz.prog 46 #[.func (.func 47) #[] #[], a, b] w fun e w' => ∃ v, e = .returned v ∧ RatIs w' v (lowN (n1 * d2 + n2 * d1) (d1 * d2)) (lowD (n1 * d2 + n2 * d1) (d1 * d2)) (2 * K + 12) ∧ Below w.heap.size w w' := by
  have ha0 := ha
  have hb0 := hb
  obtain ⟨a1, l1, c1, a2, l2, c2, rfl, h1, _⟩ := ha
  obtain ⟨a3, l3, c3, a4, l4, c4, rfl, h3, _⟩ := hb
  generalize decide (n1 < 0) = b1 at *
  generalize decide (d1 - 1 < 0) = b2 at *
  generalize decide (n2 < 0) = b3 at *
  generalize decide (d2 - 1 < 0) = b4 at *
  have hx := boxed3_first w (Obj.cells #[.slice a1 l1 c1, .bool b1, .slice a2 l2 c2, .bool b2] 30) (Obj.cells #[.slice a3 l3 c3, .bool b3, .slice a4 l4 c4, .bool b4] 30) (Obj.cells #[.slice none 0 0, .bool false, .slice none 0 0, .bool false] 30)
  have hy := boxed3_second w (Obj.cells #[.slice a1 l1 c1, .bool b1, .slice a2 l2 c2, .bool b2] 30) (Obj.cells #[.slice a3 l3 c3, .bool b3, .slice a4 l4 c4, .bool b4] 30) (Obj.cells #[.slice none 0 0, .bool false, .slice none 0 0, .bool false] 30)
  have hz := boxed3_third w (Obj.cells #[.slice a1 l1 c1, .bool b1, .slice a2 l2 c2, .bool b2] 30) (Obj.cells #[.slice a3 l3 c3, .bool b3, .slice a4 l4 c4, .bool b4] 30) (Obj.cells #[.slice none 0 0, .bool false, .slice none 0 0, .bool false] 30)
  have hB := boxed3 (Below.refl w.heap.size w) (Obj.cells #[.slice a1 l1 c1, .bool b1, .slice a2 l2 c2, .bool b2] 30) (Obj.cells #[.slice a3 l3 c3, .bool b3, .slice a4 l4 c4, .bool b4] 30) (Obj.cells #[.slice none 0 0, .bool false, .slice none 0 0, .bool false] 30)
  have Na := h1.below hB
  have Nc := h3.below hB
  have Ra := ha0.below hB
  have Rb := hb0.below hB
  clear h1 h3 ha0 hb0
  go_enter Tryz.func46, Tryz.ntmps46
  go_wp2
  generalize ((w.alloc (Obj.cells #[.slice a1 l1 c1, .bool b1, .slice a2 l2 c2, .bool b2] 30)).alloc (Obj.cells #[.slice a3 l3 c3, .bool b3, .slice a4 l4 c4, .bool b4] 30)).alloc (Obj.cells #[.slice none 0 0, .bool false, .slice none 0 0, .bool false] 30) = W at *
  obtain ⟨t1, t2, t3, t4⟩ := four_cell hx
  obtain ⟨t5, t6, t7, t8⟩ := four_cell hy
  have B0 : Below W.heap.size W W.drew := (Below.refl _ _).drew
  have ne1 : w.heap.size ≠ w.heap.size + 1 + 1 := by omega
  have ne2 : w.heap.size + 1 ≠ w.heap.size + 1 + 1 := by omega
  have hle : w.heap.size ≤ w.heap.size + 1 + 1 := by omega
  go_region_held3 (fun w' => w'.cell? ⟨w.heap.size, 0, none⟩ = some (Value.slice a1 l1 c1) ∧ w'.cell? ⟨w.heap.size, 1, none⟩ = some (Value.bool b1) ∧ w'.cell? ⟨w.heap.size, 2, none⟩ = some (Value.slice a2 l2 c2) ∧ w'.cell? ⟨w.heap.size, 3, none⟩ = some (Value.bool b2) ∧ w'.cell? ⟨w.heap.size + 1, 0, none⟩ = some (Value.slice a3 l3 c3) ∧ w'.cell? ⟨w.heap.size + 1, 1, none⟩ = some (Value.bool b3) ∧ w'.cell? ⟨w.heap.size + 1, 2, none⟩ = some (Value.slice a4 l4 c4) ∧ w'.cell? ⟨w.heap.size + 1, 3, none⟩ = some (Value.bool b4)) ((first | exact K3 | (refine keepQ t1 t2 t3 t4 t5 t6 t7 t8 ?_; first | exact B0 | exact B1 | exact B2 | exact B3 | exact B4 | exact B5 | exact B6))) (first
    | (have gk := B5; go_at_call 58; refine (qlow_any _ _ _ (n1 * d2 + n2 * d1) (d1 * d2) (2 * K + 6) (by omega) h0 ((n102.below (chain2 (chain2 hb103 hb104) hb105)).mono (by omega)) (n105.mono (by omega))).mono ?_; rintro e w106 ⟨v106, rfl, n106, hb106⟩; have B6 := chain2 B5 hb106; obtain ⟨a5, l5, c5, b5, a6, l6, c6, b6, rfl⟩ := rat_form n106; have zr := box_below B6 hz (lt_of_block hz); obtain ⟨i0, i1, i2, i3⟩ := four_cell zr; have fr := p4_free zr; have K3 := p4_keepQ (keepQ t1 t2 t3 t4 t5 t6 t7 t8 B6) ne1 ne2 (.slice a5 l5 c5) (.bool b5) (.slice a6 l6 c6) (.bool b6))
    | (have gk := B4; go_at_call 48; refine (nmul_any _ _ _ d1 d2 (K + 3) (K + 3) (by omega) (by omega) (n103.below hb104) n104).mono ?_; rintro e w105 ⟨v105, rfl, n105, hb105⟩; have B5 := chain2 B4 hb105)
    | (have gk := B3; go_at_call 23; refine (qden_any _ _ n2 d2 K (by omega) (Rb.below B3)).mono ?_; rintro e w104 ⟨v104, rfl, n104, hb104⟩; have B4 := chain2 B3 hb104)
    | (have gk := B2; go_at_call 23; refine (qden_any _ _ n1 d1 K (by omega) (Ra.below B2)).mono ?_; rintro e w103 ⟨v103, rfl, n103, hb103⟩; have B3 := chain2 B2 hb103)
    | (have gk := B1; go_at_call 47; refine (nadd_any _ _ _ (n1 * d2) (n2 * d1) (2 * K + 3) (2 * K + 3) (by omega) (by omega) m7 m8).mono ?_; rintro e w102 ⟨v102, rfl, n102, hb102⟩; have B2 := chain2 B1 hb102)
    | (have gk := B0; go_at_call 49; refine (qlevelled_any _ _ _ n1 d1 n2 d2 K hK (Ra.below B0) (Rb.below B0)).mono ?_; rintro e w101 ⟨⟨a7, l7, c7, b7, a8, l8, c8, b8, rfl, m7, m8⟩, hb101⟩; have B1 := chain2 B0 hb101))
  all_goals
    have o1 := p4_cells zr (.slice a5 l5 c5) (.bool b5) (.slice a6 l6 c6) (.bool b6)
    have o2 := p4_below (chain2 hB B6) hle (.slice a5 l5 c5) (.bool b5) (.slice a6 l6 c6) (.bool b6)
    have o3 := n106.keep zr (by decide) (p4_other (.slice a5 l5 c5) (.bool b5) (.slice a6 l6 c6) (.bool b6))
    have HO := hid (And.intro o1 (And.intro o2 o3))
    clear o1 o2 o3 i0 i1 i2 i3 fr zr K3
    generalize (((w106.setCell ⟨w.heap.size + 1 + 1, 0, none⟩ (.slice a5 l5 c5)).setCell ⟨w.heap.size + 1 + 1, 1, none⟩ (.bool b5)).setCell ⟨w.heap.size + 1 + 1, 2, none⟩ (.slice a6 l6 c6)).setCell ⟨w.heap.size + 1 + 1, 3, none⟩ (.bool b6) = X at *
    go_wp2
    obtain ⟨⟨g0, g1, g2, g3⟩, o2, o3⟩ := HO.out
    exact bodyPost_ret (v := .agg #[.slice a5 l5 c5, .bool b5, .slice a6 l6 c6, .bool b6]) (by simp [results, Tryz.results46, go_sem, g0, g1, g2, g3]) rfl ⟨_, rfl, o3, o2⟩
set_option maxHeartbeats 8000000 in
theorem qadd_any (w : World) (a b : Value) (n1 d1 n2 d2 : Int) (K : Nat) (hK : K ≤ 1000000) (ha : RatIs w a n1 d1 K) (hb : RatIs w b n2 d2 K) (h0 : d1 * d2 ≠ 0) :
    Calls Tryz.prog 10 #[a, b] w fun e w' => ∃ v, e = .returned v ∧ RatIs w' v (lowN (n1 * d2 + n2 * d1) (d1 * d2)) (lowD (n1 * d2 + n2 * d1) (d1 * d2)) (2 * K + 12) ∧ Below w.heap.size w w' := by
  have ha0 := ha
  have hb0 := hb
  obtain ⟨a1, l1, c1, a2, l2, c2, rfl, h1, _⟩ := ha
  obtain ⟨a3, l3, c3, a4, l4, c4, rfl, h3, _⟩ := hb
  generalize decide (n1 < 0) = b1 at *
  generalize decide (d1 - 1 < 0) = b2 at *
  generalize decide (n2 < 0) = b3 at *
  generalize decide (d2 - 1 < 0) = b4 at *
  have hx := boxed3_first w (Obj.cells #[.slice a1 l1 c1, .bool b1, .slice a2 l2 c2, .bool b2] 30) (Obj.cells #[.slice a3 l3 c3, .bool b3, .slice a4 l4 c4, .bool b4] 30) (Obj.cells #[.slice none 0 0, .bool false, .slice none 0 0, .bool false] 30)
  have hy := boxed3_second w (Obj.cells #[.slice a1 l1 c1, .bool b1, .slice a2 l2 c2, .bool b2] 30) (Obj.cells #[.slice a3 l3 c3, .bool b3, .slice a4 l4 c4, .bool b4] 30) (Obj.cells #[.slice none 0 0, .bool false, .slice none 0 0, .bool false] 30)
  have hz := boxed3_third w (Obj.cells #[.slice a1 l1 c1, .bool b1, .slice a2 l2 c2, .bool b2] 30) (Obj.cells #[.slice a3 l3 c3, .bool b3, .slice a4 l4 c4, .bool b4] 30) (Obj.cells #[.slice none 0 0, .bool false, .slice none 0 0, .bool false] 30)
  have hB := boxed3 (Below.refl w.heap.size w) (Obj.cells #[.slice a1 l1 c1, .bool b1, .slice a2 l2 c2, .bool b2] 30) (Obj.cells #[.slice a3 l3 c3, .bool b3, .slice a4 l4 c4, .bool b4] 30) (Obj.cells #[.slice none 0 0, .bool false, .slice none 0 0, .bool false] 30)
  have Ra := ha0.below hB
  have Rb := hb0.below hB
  clear h1 h3 ha0 hb0
  obtain ⟨t1, t2, t3, t4⟩ := four_cell hx
  obtain ⟨t5, t6, t7, t8⟩ := four_cell hy
  have hle : w.heap.size ≤ w.heap.size + 1 + 1 := by omega
  go_enter Tryz.func10, Tryz.ntmps10
  go_wp2_with fail
  generalize ((w.alloc (Obj.cells #[.slice a1 l1 c1, .bool b1, .slice a2 l2 c2, .bool b2] 30)).alloc (Obj.cells #[.slice a3 l3 c3, .bool b3, .slice a4 l4 c4, .bool b4] 30)).alloc (Obj.cells #[.slice none 0 0, .bool false, .slice none 0 0, .bool false] 30) = W at *
  refine (qjoined_add _ _ _ n1 d1 n2 d2 K hK Ra Rb h0).mono ?_
  rintro e w2 ⟨v2, rfl, R2, e2⟩
  obtain ⟨a5, l5, c5, b5, a6, l6, c6, b6, rfl⟩ := rat_form R2
  have zr := box_below e2 hz (lt_of_block hz)
  obtain ⟨i0, i1, i2, i3⟩ := four_cell zr
  have fr := p4_free zr
  have o1 := p4_cells zr (.slice a5 l5 c5) (.bool b5) (.slice a6 l6 c6) (.bool b6)
  have o2 := p4_below (chain2 hB e2) hle (.slice a5 l5 c5) (.bool b5) (.slice a6 l6 c6) (.bool b6)
  have o3 := R2.keep zr (by decide) (p4_other (.slice a5 l5 c5) (.bool b5) (.slice a6 l6 c6) (.bool b6))
  have HO := hid (And.intro o1 (And.intro o2 o3))
  clear o1 o2 o3 R2
  go_wp2
  obtain ⟨⟨g0, g1, g2, g3⟩, o2, o3⟩ := HO.out
  exact bodyPost_ret (v := .agg #[.slice a5 l5 c5, .bool b5, .slice a6 l6 c6, .bool b6]) (by simp [results, Tryz.results10, go_sem, g0, g1, g2, g3]) rfl ⟨_, rfl, o3, o2⟩
set_option maxHeartbeats 8000000 in
theorem qjoined_sub (w : World) (a b : Value) (n1 d1 n2 d2 : Int) (K : Nat) (hK : K ≤ 1000000) (ha : RatIs w a n1 d1 K) (hb : RatIs w b n2 d2 K) (h0 : d1 * d2 ≠ 0) :
    Calls Tryz.prog 46 #[.func (.func 16) #[] #[], a, b] w fun e w' => ∃ v, e = .returned v ∧ RatIs w' v (lowN (n1 * d2 - n2 * d1) (d1 * d2)) (lowD (n1 * d2 - n2 * d1) (d1 * d2)) (2 * K + 12) ∧ Below w.heap.size w w' := by
  have ha0 := ha
  have hb0 := hb
  obtain ⟨a1, l1, c1, a2, l2, c2, rfl, h1, _⟩ := ha
  obtain ⟨a3, l3, c3, a4, l4, c4, rfl, h3, _⟩ := hb
  generalize decide (n1 < 0) = b1 at *
  generalize decide (d1 - 1 < 0) = b2 at *
  generalize decide (n2 < 0) = b3 at *
  generalize decide (d2 - 1 < 0) = b4 at *
  have hx := boxed3_first w (Obj.cells #[.slice a1 l1 c1, .bool b1, .slice a2 l2 c2, .bool b2] 30) (Obj.cells #[.slice a3 l3 c3, .bool b3, .slice a4 l4 c4, .bool b4] 30) (Obj.cells #[.slice none 0 0, .bool false, .slice none 0 0, .bool false] 30)
  have hy := boxed3_second w (Obj.cells #[.slice a1 l1 c1, .bool b1, .slice a2 l2 c2, .bool b2] 30) (Obj.cells #[.slice a3 l3 c3, .bool b3, .slice a4 l4 c4, .bool b4] 30) (Obj.cells #[.slice none 0 0, .bool false, .slice none 0 0, .bool false] 30)
  have hz := boxed3_third w (Obj.cells #[.slice a1 l1 c1, .bool b1, .slice a2 l2 c2, .bool b2] 30) (Obj.cells #[.slice a3 l3 c3, .bool b3, .slice a4 l4 c4, .bool b4] 30) (Obj.cells #[.slice none 0 0, .bool false, .slice none 0 0, .bool false] 30)
  have hB := boxed3 (Below.refl w.heap.size w) (Obj.cells #[.slice a1 l1 c1, .bool b1, .slice a2 l2 c2, .bool b2] 30) (Obj.cells #[.slice a3 l3 c3, .bool b3, .slice a4 l4 c4, .bool b4] 30) (Obj.cells #[.slice none 0 0, .bool false, .slice none 0 0, .bool false] 30)
  have Na := h1.below hB
  have Nc := h3.below hB
  have Ra := ha0.below hB
  have Rb := hb0.below hB
  clear h1 h3 ha0 hb0
  go_enter Tryz.func46, Tryz.ntmps46
  go_wp2
  generalize ((w.alloc (Obj.cells #[.slice a1 l1 c1, .bool b1, .slice a2 l2 c2, .bool b2] 30)).alloc (Obj.cells #[.slice a3 l3 c3, .bool b3, .slice a4 l4 c4, .bool b4] 30)).alloc (Obj.cells #[.slice none 0 0, .bool false, .slice none 0 0, .bool false] 30) = W at *
  obtain ⟨t1, t2, t3, t4⟩ := four_cell hx
  obtain ⟨t5, t6, t7, t8⟩ := four_cell hy
  have B0 : Below W.heap.size W W.drew := (Below.refl _ _).drew
  have ne1 : w.heap.size ≠ w.heap.size + 1 + 1 := by omega
  have ne2 : w.heap.size + 1 ≠ w.heap.size + 1 + 1 := by omega
  have hle : w.heap.size ≤ w.heap.size + 1 + 1 := by omega
  go_region_held3 (fun w' => w'.cell? ⟨w.heap.size, 0, none⟩ = some (Value.slice a1 l1 c1) ∧ w'.cell? ⟨w.heap.size, 1, none⟩ = some (Value.bool b1) ∧ w'.cell? ⟨w.heap.size, 2, none⟩ = some (Value.slice a2 l2 c2) ∧ w'.cell? ⟨w.heap.size, 3, none⟩ = some (Value.bool b2) ∧ w'.cell? ⟨w.heap.size + 1, 0, none⟩ = some (Value.slice a3 l3 c3) ∧ w'.cell? ⟨w.heap.size + 1, 1, none⟩ = some (Value.bool b3) ∧ w'.cell? ⟨w.heap.size + 1, 2, none⟩ = some (Value.slice a4 l4 c4) ∧ w'.cell? ⟨w.heap.size + 1, 3, none⟩ = some (Value.bool b4)) ((first | exact K3 | (refine keepQ t1 t2 t3 t4 t5 t6 t7 t8 ?_; first | exact B0 | exact B1 | exact B2 | exact B3 | exact B4 | exact B5 | exact B6))) (first
    | (have gk := B5; go_at_call 58; refine (qlow_any _ _ _ (n1 * d2 - n2 * d1) (d1 * d2) (2 * K + 6) (by omega) h0 ((n102.below (chain2 (chain2 hb103 hb104) hb105)).mono (by omega)) (n105.mono (by omega))).mono ?_; rintro e w106 ⟨v106, rfl, n106, hb106⟩; have B6 := chain2 B5 hb106; obtain ⟨a5, l5, c5, b5, a6, l6, c6, b6, rfl⟩ := rat_form n106; have zr := box_below B6 hz (lt_of_block hz); obtain ⟨i0, i1, i2, i3⟩ := four_cell zr; have fr := p4_free zr; have K3 := p4_keepQ (keepQ t1 t2 t3 t4 t5 t6 t7 t8 B6) ne1 ne2 (.slice a5 l5 c5) (.bool b5) (.slice a6 l6 c6) (.bool b6))
    | (have gk := B4; go_at_call 48; refine (nmul_any _ _ _ d1 d2 (K + 3) (K + 3) (by omega) (by omega) (n103.below hb104) n104).mono ?_; rintro e w105 ⟨v105, rfl, n105, hb105⟩; have B5 := chain2 B4 hb105)
    | (have gk := B3; go_at_call 23; refine (qden_any _ _ n2 d2 K (by omega) (Rb.below B3)).mono ?_; rintro e w104 ⟨v104, rfl, n104, hb104⟩; have B4 := chain2 B3 hb104)
    | (have gk := B2; go_at_call 23; refine (qden_any _ _ n1 d1 K (by omega) (Ra.below B2)).mono ?_; rintro e w103 ⟨v103, rfl, n103, hb103⟩; have B3 := chain2 B2 hb103)
    | (have gk := B1; go_at_call 16; refine (nsub_any _ _ _ (n1 * d2) (n2 * d1) (2 * K + 3) (2 * K + 3) (by omega) (by omega) m7 m8).mono ?_; rintro e w102 ⟨v102, rfl, n102, hb102⟩; have B2 := chain2 B1 hb102)
    | (have gk := B0; go_at_call 49; refine (qlevelled_any _ _ _ n1 d1 n2 d2 K hK (Ra.below B0) (Rb.below B0)).mono ?_; rintro e w101 ⟨⟨a7, l7, c7, b7, a8, l8, c8, b8, rfl, m7, m8⟩, hb101⟩; have B1 := chain2 B0 hb101))
  all_goals
    have o1 := p4_cells zr (.slice a5 l5 c5) (.bool b5) (.slice a6 l6 c6) (.bool b6)
    have o2 := p4_below (chain2 hB B6) hle (.slice a5 l5 c5) (.bool b5) (.slice a6 l6 c6) (.bool b6)
    have o3 := n106.keep zr (by decide) (p4_other (.slice a5 l5 c5) (.bool b5) (.slice a6 l6 c6) (.bool b6))
    have HO := hid (And.intro o1 (And.intro o2 o3))
    clear o1 o2 o3 i0 i1 i2 i3 fr zr K3
    generalize (((w106.setCell ⟨w.heap.size + 1 + 1, 0, none⟩ (.slice a5 l5 c5)).setCell ⟨w.heap.size + 1 + 1, 1, none⟩ (.bool b5)).setCell ⟨w.heap.size + 1 + 1, 2, none⟩ (.slice a6 l6 c6)).setCell ⟨w.heap.size + 1 + 1, 3, none⟩ (.bool b6) = X at *
    go_wp2
    obtain ⟨⟨g0, g1, g2, g3⟩, o2, o3⟩ := HO.out
    exact bodyPost_ret (v := .agg #[.slice a5 l5 c5, .bool b5, .slice a6 l6 c6, .bool b6]) (by simp [results, Tryz.results46, go_sem, g0, g1, g2, g3]) rfl ⟨_, rfl, o3, o2⟩
set_option maxHeartbeats 8000000 in
theorem qsub_any (w : World) (a b : Value) (n1 d1 n2 d2 : Int) (K : Nat) (hK : K ≤ 1000000) (ha : RatIs w a n1 d1 K) (hb : RatIs w b n2 d2 K) (h0 : d1 * d2 ≠ 0) :
    Calls Tryz.prog 39 #[a, b] w fun e w' => ∃ v, e = .returned v ∧ RatIs w' v (lowN (n1 * d2 - n2 * d1) (d1 * d2)) (lowD (n1 * d2 - n2 * d1) (d1 * d2)) (2 * K + 12) ∧ Below w.heap.size w w' := by
  have ha0 := ha
  have hb0 := hb
  obtain ⟨a1, l1, c1, a2, l2, c2, rfl, h1, _⟩ := ha
  obtain ⟨a3, l3, c3, a4, l4, c4, rfl, h3, _⟩ := hb
  generalize decide (n1 < 0) = b1 at *
  generalize decide (d1 - 1 < 0) = b2 at *
  generalize decide (n2 < 0) = b3 at *
  generalize decide (d2 - 1 < 0) = b4 at *
  have hx := boxed3_first w (Obj.cells #[.slice a1 l1 c1, .bool b1, .slice a2 l2 c2, .bool b2] 30) (Obj.cells #[.slice a3 l3 c3, .bool b3, .slice a4 l4 c4, .bool b4] 30) (Obj.cells #[.slice none 0 0, .bool false, .slice none 0 0, .bool false] 30)
  have hy := boxed3_second w (Obj.cells #[.slice a1 l1 c1, .bool b1, .slice a2 l2 c2, .bool b2] 30) (Obj.cells #[.slice a3 l3 c3, .bool b3, .slice a4 l4 c4, .bool b4] 30) (Obj.cells #[.slice none 0 0, .bool false, .slice none 0 0, .bool false] 30)
  have hz := boxed3_third w (Obj.cells #[.slice a1 l1 c1, .bool b1, .slice a2 l2 c2, .bool b2] 30) (Obj.cells #[.slice a3 l3 c3, .bool b3, .slice a4 l4 c4, .bool b4] 30) (Obj.cells #[.slice none 0 0, .bool false, .slice none 0 0, .bool false] 30)
  have hB := boxed3 (Below.refl w.heap.size w) (Obj.cells #[.slice a1 l1 c1, .bool b1, .slice a2 l2 c2, .bool b2] 30) (Obj.cells #[.slice a3 l3 c3, .bool b3, .slice a4 l4 c4, .bool b4] 30) (Obj.cells #[.slice none 0 0, .bool false, .slice none 0 0, .bool false] 30)
  have Ra := ha0.below hB
  have Rb := hb0.below hB
  clear h1 h3 ha0 hb0
  obtain ⟨t1, t2, t3, t4⟩ := four_cell hx
  obtain ⟨t5, t6, t7, t8⟩ := four_cell hy
  have hle : w.heap.size ≤ w.heap.size + 1 + 1 := by omega
  go_enter Tryz.func39, Tryz.ntmps39
  go_wp2_with fail
  generalize ((w.alloc (Obj.cells #[.slice a1 l1 c1, .bool b1, .slice a2 l2 c2, .bool b2] 30)).alloc (Obj.cells #[.slice a3 l3 c3, .bool b3, .slice a4 l4 c4, .bool b4] 30)).alloc (Obj.cells #[.slice none 0 0, .bool false, .slice none 0 0, .bool false] 30) = W at *
  refine (qjoined_sub _ _ _ n1 d1 n2 d2 K hK Ra Rb h0).mono ?_
  rintro e w2 ⟨v2, rfl, R2, e2⟩
  obtain ⟨a5, l5, c5, b5, a6, l6, c6, b6, rfl⟩ := rat_form R2
  have zr := box_below e2 hz (lt_of_block hz)
  obtain ⟨i0, i1, i2, i3⟩ := four_cell zr
  have fr := p4_free zr
  have o1 := p4_cells zr (.slice a5 l5 c5) (.bool b5) (.slice a6 l6 c6) (.bool b6)
  have o2 := p4_below (chain2 hB e2) hle (.slice a5 l5 c5) (.bool b5) (.slice a6 l6 c6) (.bool b6)
  have o3 := R2.keep zr (by decide) (p4_other (.slice a5 l5 c5) (.bool b5) (.slice a6 l6 c6) (.bool b6))
  have HO := hid (And.intro o1 (And.intro o2 o3))
  clear o1 o2 o3 R2
  go_wp2
  obtain ⟨⟨g0, g1, g2, g3⟩, o2, o3⟩ := HO.out
  exact bodyPost_ret (v := .agg #[.slice a5 l5 c5, .bool b5, .slice a6 l6 c6, .bool b6]) (by simp [results, Tryz.results39, go_sem, g0, g1, g2, g3]) rfl ⟨_, rfl, o3, o2⟩
end Go.Proofs.YtpajpfbgmgjnnaaGreatDoor
