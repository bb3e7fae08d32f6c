/- POps, PLevel, PJoin. -/
import Derived.Test.YtjldlmonccgopaaGreatDoorZPSmall
import Derived.Test.YtjldlmonccgopaaGreatDoorPk19
/- Fractions: Mul, Div, levelled, Cmp. -/
namespace Go.Proofs.YtjldlmonccgopaaGreatDoor
open Go.RowKit
set_option linter.unusedVariables false
set_option maxRecDepth 100000
set_option linter.unusedSimpArgs false
attribute [local go_sem ↓] Go.wp_at_zero Go.wp_at_succ

theorem p4_keepQ {X : World} {p q r : Nat} {x0 x1 x2 x3 y0 y1 y2 y3 : Value} (h : X.cell? ⟨p, 0, none⟩ = some x0 ∧ X.cell? ⟨p, 1, none⟩ = some x1 ∧ X.cell? ⟨p, 2, none⟩ = some x2 ∧ X.cell? ⟨p, 3, none⟩ = some x3 ∧ X.cell? ⟨q, 0, none⟩ = some y0 ∧ X.cell? ⟨q, 1, none⟩ = some y1 ∧ X.cell? ⟨q, 2, none⟩ = some y2 ∧ X.cell? ⟨q, 3, none⟩ = some y3) (h1 : p ≠ r) (h2 : q ≠ r) (v0 v1 v2 v3 : Value) :
    let Y := (((X.setCell ⟨r, 0, none⟩ v0).setCell ⟨r, 1, none⟩ v1).setCell ⟨r, 2, none⟩ v2).setCell ⟨r, 3, none⟩ v3
    Y.cell? ⟨p, 0, none⟩ = some x0 ∧ Y.cell? ⟨p, 1, none⟩ = some x1 ∧ Y.cell? ⟨p, 2, none⟩ = some x2 ∧ Y.cell? ⟨p, 3, none⟩ = some x3 ∧ Y.cell? ⟨q, 0, none⟩ = some y0 ∧ Y.cell? ⟨q, 1, none⟩ = some y1 ∧ Y.cell? ⟨q, 2, none⟩ = some y2 ∧ Y.cell? ⟨q, 3, none⟩ = some y3 :=
  ⟨p4_keep h.1 h1 _ _ _ _, p4_keep h.2.1 h1 _ _ _ _, p4_keep h.2.2.1 h1 _ _ _ _, p4_keep h.2.2.2.1 h1 _ _ _ _, p4_keep h.2.2.2.2.1 h2 _ _ _ _, p4_keep h.2.2.2.2.2.1 h2 _ _ _ _, p4_keep h.2.2.2.2.2.2.1 h2 _ _ _ _, p4_keep h.2.2.2.2.2.2.2 h2 _ _ _ _⟩
theorem two_keepQ {X : World} {p q r : Nat} {x0 x1 x2 x3 y0 y1 y2 y3 : Value} (h : X.cell? ⟨p, 0, none⟩ = some x0 ∧ X.cell? ⟨p, 1, none⟩ = some x1 ∧ X.cell? ⟨p, 2, none⟩ = some x2 ∧ X.cell? ⟨p, 3, none⟩ = some x3 ∧ X.cell? ⟨q, 0, none⟩ = some y0 ∧ X.cell? ⟨q, 1, none⟩ = some y1 ∧ X.cell? ⟨q, 2, none⟩ = some y2 ∧ X.cell? ⟨q, 3, none⟩ = some y3) (h1 : p ≠ r) (h2 : q ≠ r) (v0 v1 : Value) :
    let Y := (X.setCell ⟨r, 0, none⟩ v0).setCell ⟨r, 1, none⟩ v1
    Y.cell? ⟨p, 0, none⟩ = some x0 ∧ Y.cell? ⟨p, 1, none⟩ = some x1 ∧ Y.cell? ⟨p, 2, none⟩ = some x2 ∧ Y.cell? ⟨p, 3, none⟩ = some x3 ∧ Y.cell? ⟨q, 0, none⟩ = some y0 ∧ Y.cell? ⟨q, 1, none⟩ = some y1 ∧ Y.cell? ⟨q, 2, none⟩ = some y2 ∧ Y.cell? ⟨q, 3, none⟩ = some y3 :=
  ⟨two_keep0 h.1 h1 _ _, two_keep0 h.2.1 h1 _ _, two_keep0 h.2.2.1 h1 _ _, two_keep0 h.2.2.2.1 h1 _ _, two_keep0 h.2.2.2.2.1 h2 _ _, two_keep0 h.2.2.2.2.2.1 h2 _ _, two_keep0 h.2.2.2.2.2.2.1 h2 _ _, two_keep0 h.2.2.2.2.2.2.2 h2 _ _⟩
theorem RatIs.top {w : World} {a1 a2 : Option Addr} {l1 c1 l2 c2 : Nat} {b1 b2 : Bool} {n d : Int} {K : Nat} (h : RatIs w (.agg #[.slice a1 l1 c1, .bool b1, .slice a2 l2 c2, .bool b2]) n d K) : NumIs w (.agg #[.slice a1 l1 c1, .bool b1]) n K := by
  obtain ⟨_, _, _, _, _, _, e, k1, _⟩ := h
  simp only [Value.agg.injEq, Array.mk.injEq, List.cons.injEq] at e
  rw [e.1, e.2.1]; exact k1
end Go.Proofs.YtjldlmonccgopaaGreatDoor
/- Fractions: levelled, Cmp. -/
namespace Go.Proofs.YtjldlmonccgopaaGreatDoor
open Go.RowKit
set_option linter.unusedVariables false
set_option maxRecDepth 100000
set_option linter.unusedSimpArgs false
attribute [local go_sem ↓] Go.wp_at_zero Go.wp_at_succ

set_option maxHeartbeats 8000000 in
theorem qlevelled_any (w : World) (a b : Value) (n1 d1 n2 d2 : Int) (K : Nat) (hK : K ≤ 1000000) (ha : RatIs w a n1 d1 K) (hb : RatIs w b n2 d2 K) :
    Calls Tryz.prog 49 #[a, b] w fun e w' => (∃ a5 l5 c5 b5 a6 l6 c6 b6, e = .returned (.tuple #[.agg #[.slice a5 l5 c5, .bool b5], .agg #[.slice a6 l6 c6, .bool b6]]) ∧ NumIs w' (.agg #[.slice a5 l5 c5, .bool b5]) (n1 * d2) (2 * K + 3) ∧ NumIs w' (.agg #[.slice a6 l6 c6, .bool b6]) (n2 * d1) (2 * K + 3)) ∧ Below w.heap.size w w' := by
  have ha0 := ha
  have hb0 := hb
  obtain ⟨a1, l1, c1, a2, l2, c2, rfl, h1, _⟩ := ha
  obtain ⟨a3, l3, c3, a4, l4, c4, rfl, h3, _⟩ := hb
  generalize decide (n1 < 0) = b1 at *
  generalize decide (d1 - 1 < 0) = b2 at *
  generalize decide (n2 < 0) = b3 at *
  generalize decide (d2 - 1 < 0) = b4 at *
  obtain ⟨hB, hx, hy, hz, hq, _⟩ := boxed4 w (Obj.cells #[.slice a1 l1 c1, .bool b1, .slice a2 l2 c2, .bool b2] 29) (Obj.cells #[.slice a3 l3 c3, .bool b3, .slice a4 l4 c4, .bool b4] 29) (Obj.cells #[.slice none 0 0, .bool false] 27) (Obj.cells #[.slice none 0 0, .bool false] 27)
  have Na := h1.below hB
  have Nc := h3.below hB
  have Ra := ha0.below hB
  have Rb := hb0.below hB
  clear h1 h3 ha0 hb0
  go_enter Tryz.func49, Tryz.ntmps49
  go_wp2
  generalize (((w.alloc (Obj.cells #[.slice a1 l1 c1, .bool b1, .slice a2 l2 c2, .bool b2] 29)).alloc (Obj.cells #[.slice a3 l3 c3, .bool b3, .slice a4 l4 c4, .bool b4] 29)).alloc (Obj.cells #[.slice none 0 0, .bool false] 27)).alloc (Obj.cells #[.slice none 0 0, .bool false] 27) = W at *
  obtain ⟨t1, t2, t3, t4⟩ := four_cell hx
  obtain ⟨t5, t6, t7, t8⟩ := four_cell hy
  have B0 : Below W.heap.size W W.drew := (Below.refl _ _).drew
  have ne1 : w.heap.size ≠ w.heap.size + 1 + 1 := by omega
  have ne2 : w.heap.size + 1 ≠ w.heap.size + 1 + 1 := by omega
  have ne3 : w.heap.size ≠ w.heap.size + 1 + 1 + 1 := by omega
  have ne4 : w.heap.size + 1 ≠ w.heap.size + 1 + 1 + 1 := by omega
  have ne5 : w.heap.size + 1 + 1 + 1 ≠ w.heap.size + 1 + 1 := by omega
  have hle : w.heap.size ≤ w.heap.size + 1 + 1 := by omega
  have hle2 : w.heap.size ≤ w.heap.size + 1 + 1 + 1 := by omega
  go_region_held3 (fun w' => w'.cell? ⟨w.heap.size, 0, none⟩ = some (Value.slice a1 l1 c1) ∧ w'.cell? ⟨w.heap.size, 1, none⟩ = some (Value.bool b1) ∧ w'.cell? ⟨w.heap.size, 2, none⟩ = some (Value.slice a2 l2 c2) ∧ w'.cell? ⟨w.heap.size, 3, none⟩ = some (Value.bool b2) ∧ w'.cell? ⟨w.heap.size + 1, 0, none⟩ = some (Value.slice a3 l3 c3) ∧ w'.cell? ⟨w.heap.size + 1, 1, none⟩ = some (Value.bool b3) ∧ w'.cell? ⟨w.heap.size + 1, 2, none⟩ = some (Value.slice a4 l4 c4) ∧ w'.cell? ⟨w.heap.size + 1, 3, none⟩ = some (Value.bool b4)) ((first | exact K3 | exact K4 | (refine keepQ t1 t2 t3 t4 t5 t6 t7 t8 ?_; first | exact B0 | exact B1 | exact B2 | exact B3 | exact B4))) (first
    | (have gk := B3; go_at_call 58; refine (nmul_any _ _ _ n2 d1 K (K + 3) (by omega) (by omega) (Nc.below B3) n103).mono ?_; rintro e w104 ⟨v104, rfl, n104, hb104⟩; have B4 := chain2 B3 hb104; obtain ⟨a6, l6, c6, b6, rfl⟩ := num_form n104; have zr := box_below B4 hz (lt_of_block hz); have zq := box_set2 (box_below B4 hq (lt_of_block hq)) ne5 (.slice a5 l5 c5) (.bool b5); have i0 := two_cell0 zr; have i1 := two_cell1 zr; have f0 := two_free (k := 0) zr; have f1 := two_free (k := 1) zr; have i2 := two_cell0 zq; have i3 := two_cell1 zq; have f2 := two_free (k := 0) zq; have f3 := two_free (k := 1) zq; have K3 := two_keepQ (keepQ t1 t2 t3 t4 t5 t6 t7 t8 B4) ne1 ne2 (.slice a5 l5 c5) (.bool b5); have K4 := two_keepQ K3 ne3 ne4 (.slice a6 l6 c6) (.bool b6))
    | (have gk := B2; go_at_call 29; refine (qden_any _ _ n1 d1 K (by omega) (Ra.below B2)).mono ?_; rintro e w103 ⟨v103, rfl, n103, hb103⟩; have B3 := chain2 B2 hb103)
    | (have gk := B1; go_at_call 58; refine (nmul_any _ _ _ n1 d2 K (K + 3) (by omega) (by omega) (Na.below B1) n101).mono ?_; rintro e w102 ⟨v102, rfl, n102, hb102⟩; have B2 := chain2 B1 hb102; obtain ⟨a5, l5, c5, b5, rfl⟩ := num_form n102)
    | (have gk := B0; go_at_call 29; refine (qden_any _ _ n2 d2 K (by omega) (Rb.below B0)).mono ?_; rintro e w101 ⟨v101, rfl, n101, hb101⟩; have B1 := chain2 B0 hb101))
  all_goals
    have p1 := box_set2 (two_set1 (x := .bool b5) (two_set0 (x := .slice a5 l5 c5) zr)) (fun e => ne5 e.symm) (.slice a6 l6 c6) (.bool b6)
    have p2 := two_set1 (x := .bool b6) (two_set0 (x := .slice a6 l6 c6) zq)
    have q1 := ((n102.below (chain2 hb103 hb104)).box2 zr (by decide) (.slice a5 l5 c5) (.bool b5)).box2 zq (by decide) (.slice a6 l6 c6) (.bool b6)
    have q2 := (n104.box2 zr (by decide) (.slice a5 l5 c5) (.bool b5)).box2 zq (by decide) (.slice a6 l6 c6) (.bool b6)
    have o2 := ((((chain2 hB B4).setCell (p := ⟨w.heap.size + 1 + 1, 0, none⟩) hle (.slice a5 l5 c5)).setCell (p := ⟨w.heap.size + 1 + 1, 1, none⟩) hle (.bool b5)).setCell (p := ⟨w.heap.size + 1 + 1 + 1, 0, none⟩) hle2 (.slice a6 l6 c6)).setCell (p := ⟨w.heap.size + 1 + 1 + 1, 1, none⟩) hle2 (.bool b6)
    have HO := hid (And.intro p1 (And.intro p2 (And.intro q1 (And.intro q2 o2))))
    clear p1 p2 q1 q2 o2 i0 i1 i2 i3 f0 f1 f2 f3 zr zq K3 K4
    generalize (((w104.setCell ⟨w.heap.size + 1 + 1, 0, none⟩ (.slice a5 l5 c5)).setCell ⟨w.heap.size + 1 + 1, 1, none⟩ (.bool b5)).setCell ⟨w.heap.size + 1 + 1 + 1, 0, none⟩ (.slice a6 l6 c6)).setCell ⟨w.heap.size + 1 + 1 + 1, 1, none⟩ (.bool b6) = X at *
    go_wp2
    obtain ⟨p1, p2, q1, q2, o2⟩ := HO.out
    have g0 := two_cell0 p1
    have g1 := two_cell1 p1
    have g2 := two_cell0 p2
    have g3 := two_cell1 p2
    exact bodyPost_ret (v := .tuple #[.agg #[.slice a5 l5 c5, .bool b5], .agg #[.slice a6 l6 c6, .bool b6]]) (by simp [results, Tryz.results49, go_sem, g0, g1, g2, g3]) rfl ⟨⟨a5, l5, c5, b5, a6, l6, c6, b6, rfl, q1.mono (by omega), q2.mono (by omega)⟩, o2⟩
set_option maxHeartbeats 8000000 in
theorem qcmp_any (w : World) (a b : Value) (n1 d1 n2 d2 : Int) (K : Nat) (hK : K ≤ 1000000) (ha : RatIs w a n1 d1 K) (hb : RatIs w b n2 d2 K) :
    Calls Tryz.prog 22 #[a, b] w fun e w' => e = .returned (.int .i64 (cmpZ (n1 * d2) (n2 * d1))) ∧ Below w.heap.size w w' := by
  have ha0 := ha
  have hb0 := hb
  obtain ⟨a1, l1, c1, a2, l2, c2, rfl, h1, _⟩ := ha
  obtain ⟨a3, l3, c3, a4, l4, c4, rfl, h3, _⟩ := hb
  generalize decide (n1 < 0) = b1 at *
  generalize decide (d1 - 1 < 0) = b2 at *
  generalize decide (n2 < 0) = b3 at *
  generalize decide (d2 - 1 < 0) = b4 at *
  have hx := boxed2_first w (Obj.cells #[.slice a1 l1 c1, .bool b1, .slice a2 l2 c2, .bool b2] 29) (Obj.cells #[.slice a3 l3 c3, .bool b3, .slice a4 l4 c4, .bool b4] 29)
  have hy := boxed2_second w (Obj.cells #[.slice a1 l1 c1, .bool b1, .slice a2 l2 c2, .bool b2] 29) (Obj.cells #[.slice a3 l3 c3, .bool b3, .slice a4 l4 c4, .bool b4] 29)
  have hB := boxed2 (Below.refl w.heap.size w) (Obj.cells #[.slice a1 l1 c1, .bool b1, .slice a2 l2 c2, .bool b2] 29) (Obj.cells #[.slice a3 l3 c3, .bool b3, .slice a4 l4 c4, .bool b4] 29)
  have Ra := ha0.below hB
  have Rb := hb0.below hB
  clear h1 h3 ha0 hb0
  obtain ⟨t1, t2, t3, t4⟩ := four_cell hx
  obtain ⟨t5, t6, t7, t8⟩ := four_cell hy
  go_enter Tryz.func22, Tryz.ntmps22
  go_wp2_with fail
  generalize (w.alloc (Obj.cells #[.slice a1 l1 c1, .bool b1, .slice a2 l2 c2, .bool b2] 29)).alloc (Obj.cells #[.slice a3 l3 c3, .bool b3, .slice a4 l4 c4, .bool b4] 29) = W at *
  refine (qlevelled_any _ _ _ n1 d1 n2 d2 K hK Ra Rb).mono ?_
  rintro e w1 ⟨⟨a5, l5, c5, b5, a6, l6, c6, b6, rfl, x1, y1⟩, e1⟩
  have B1 := chain2 hB e1
  have hx := boxed2_first w1 (Obj.cells #[.slice a5 l5 c5, .bool b5] 27) (Obj.cells #[.slice a6 l6 c6, .bool b6] 27)
  have hy := boxed2_second w1 (Obj.cells #[.slice a5 l5 c5, .bool b5] 27) (Obj.cells #[.slice a6 l6 c6, .bool b6] 27)
  have h2 := boxed2 (Below.refl w1.heap.size w1) (Obj.cells #[.slice a5 l5 c5, .bool b5] 27) (Obj.cells #[.slice a6 l6 c6, .bool b6] 27)
  have B2 := chain2 B1 h2
  have x2 := x1.below h2
  have y2 := y1.below h2
  have t1 := two_cell0 hx
  have t2 := two_cell1 hx
  have t3 := two_cell0 hy
  have t4 := two_cell1 hy
  go_wp2_with fail
  refine (ncmp_any _ _ _ (n1 * d2) (n2 * d1) (2 * K + 3) (2 * K + 3) (by omega) (by omega) x2 y2).mono ?_
  rintro e w2 ⟨rfl, e2⟩
  have B3 := chain2 B2 e2
  go_wp2
  go_ret
  exact ⟨rfl, B3⟩
end Go.Proofs.YtjldlmonccgopaaGreatDoor
/- Fractions: joined, Add, Sub. -/
namespace Go.Proofs.YtjldlmonccgopaaGreatDoor
open Go.RowKit
set_option linter.unusedVariables false
set_option maxRecDepth 100000
set_option linter.unusedSimpArgs false
attribute [local go_sem ↓] Go.wp_at_zero Go.wp_at_succ

set_option maxHeartbeats 8000000 in
theorem qjoined_add (w : World) (a b : Value) (n1 d1 n2 d2 : Int) (K : Nat) (hK : K ≤ 1000000) (ha : RatIs w a n1 d1 K) (hb : RatIs w b n2 d2 K) (h0 : d1 * d2 ≠ 0) :
    Calls Tryz.prog 25 #[.func (.func 26) #[] #[], a, b] w fun e w' => ∃ v, e = .returned v ∧ RatIs w' v (lowN (n1 * d2 + n2 * d1) (d1 * d2)) (lowD (n1 * d2 + n2 * d1) (d1 * d2)) (2 * K + 12) ∧ Below w.heap.size w w' := by
  have ha0 := ha
  have hb0 := hb
  obtain ⟨a1, l1, c1, a2, l2, c2, rfl, h1, _⟩ := ha
  obtain ⟨a3, l3, c3, a4, l4, c4, rfl, h3, _⟩ := hb
  generalize decide (n1 < 0) = b1 at *
  generalize decide (d1 - 1 < 0) = b2 at *
  generalize decide (n2 < 0) = b3 at *
  generalize decide (d2 - 1 < 0) = b4 at *
  have hx := boxed3_first w (Obj.cells #[.slice a1 l1 c1, .bool b1, .slice a2 l2 c2, .bool b2] 29) (Obj.cells #[.slice a3 l3 c3, .bool b3, .slice a4 l4 c4, .bool b4] 29) (Obj.cells #[.slice none 0 0, .bool false, .slice none 0 0, .bool false] 29)
  have hy := boxed3_second w (Obj.cells #[.slice a1 l1 c1, .bool b1, .slice a2 l2 c2, .bool b2] 29) (Obj.cells #[.slice a3 l3 c3, .bool b3, .slice a4 l4 c4, .bool b4] 29) (Obj.cells #[.slice none 0 0, .bool false, .slice none 0 0, .bool false] 29)
  have hz := boxed3_third w (Obj.cells #[.slice a1 l1 c1, .bool b1, .slice a2 l2 c2, .bool b2] 29) (Obj.cells #[.slice a3 l3 c3, .bool b3, .slice a4 l4 c4, .bool b4] 29) (Obj.cells #[.slice none 0 0, .bool false, .slice none 0 0, .bool false] 29)
  have hB := boxed3 (Below.refl w.heap.size w) (Obj.cells #[.slice a1 l1 c1, .bool b1, .slice a2 l2 c2, .bool b2] 29) (Obj.cells #[.slice a3 l3 c3, .bool b3, .slice a4 l4 c4, .bool b4] 29) (Obj.cells #[.slice none 0 0, .bool false, .slice none 0 0, .bool false] 29)
  have Na := h1.below hB
  have Nc := h3.below hB
  have Ra := ha0.below hB
  have Rb := hb0.below hB
  clear h1 h3 ha0 hb0
  go_enter Tryz.func25, Tryz.ntmps25
  go_wp2
  generalize ((w.alloc (Obj.cells #[.slice a1 l1 c1, .bool b1, .slice a2 l2 c2, .bool b2] 29)).alloc (Obj.cells #[.slice a3 l3 c3, .bool b3, .slice a4 l4 c4, .bool b4] 29)).alloc (Obj.cells #[.slice none 0 0, .bool false, .slice none 0 0, .bool false] 29) = W at *
  obtain ⟨t1, t2, t3, t4⟩ := four_cell hx
  obtain ⟨t5, t6, t7, t8⟩ := four_cell hy
  have B0 : Below W.heap.size W W.drew := (Below.refl _ _).drew
  have ne1 : w.heap.size ≠ w.heap.size + 1 + 1 := by omega
  have ne2 : w.heap.size + 1 ≠ w.heap.size + 1 + 1 := by omega
  have hle : w.heap.size ≤ w.heap.size + 1 + 1 := by omega
  go_region_held3 (fun w' => w'.cell? ⟨w.heap.size, 0, none⟩ = some (Value.slice a1 l1 c1) ∧ w'.cell? ⟨w.heap.size, 1, none⟩ = some (Value.bool b1) ∧ w'.cell? ⟨w.heap.size, 2, none⟩ = some (Value.slice a2 l2 c2) ∧ w'.cell? ⟨w.heap.size, 3, none⟩ = some (Value.bool b2) ∧ w'.cell? ⟨w.heap.size + 1, 0, none⟩ = some (Value.slice a3 l3 c3) ∧ w'.cell? ⟨w.heap.size + 1, 1, none⟩ = some (Value.bool b3) ∧ w'.cell? ⟨w.heap.size + 1, 2, none⟩ = some (Value.slice a4 l4 c4) ∧ w'.cell? ⟨w.heap.size + 1, 3, none⟩ = some (Value.bool b4)) ((first | exact K3 | (refine keepQ t1 t2 t3 t4 t5 t6 t7 t8 ?_; first | exact B0 | exact B1 | exact B2 | exact B3 | exact B4 | exact B5 | exact B6))) (first
    | (have gk := B5; go_at_call 48; refine (qlow_any _ _ _ (n1 * d2 + n2 * d1) (d1 * d2) (2 * K + 6) (by omega) h0 ((n102.below (chain2 (chain2 hb103 hb104) hb105)).mono (by omega)) (n105.mono (by omega))).mono ?_; rintro e w106 ⟨v106, rfl, n106, hb106⟩; have B6 := chain2 B5 hb106; obtain ⟨a5, l5, c5, b5, a6, l6, c6, b6, rfl⟩ := rat_form n106; have zr := box_below B6 hz (lt_of_block hz); obtain ⟨i0, i1, i2, i3⟩ := four_cell zr; have fr := p4_free zr; have K3 := p4_keepQ (keepQ t1 t2 t3 t4 t5 t6 t7 t8 B6) ne1 ne2 (.slice a5 l5 c5) (.bool b5) (.slice a6 l6 c6) (.bool b6))
    | (have gk := B4; go_at_call 58; refine (nmul_any _ _ _ d1 d2 (K + 3) (K + 3) (by omega) (by omega) (n103.below hb104) n104).mono ?_; rintro e w105 ⟨v105, rfl, n105, hb105⟩; have B5 := chain2 B4 hb105)
    | (have gk := B3; go_at_call 29; refine (qden_any _ _ n2 d2 K (by omega) (Rb.below B3)).mono ?_; rintro e w104 ⟨v104, rfl, n104, hb104⟩; have B4 := chain2 B3 hb104)
    | (have gk := B2; go_at_call 29; refine (qden_any _ _ n1 d1 K (by omega) (Ra.below B2)).mono ?_; rintro e w103 ⟨v103, rfl, n103, hb103⟩; have B3 := chain2 B2 hb103)
    | (have gk := B1; go_at_call 26; refine (nadd_any _ _ _ (n1 * d2) (n2 * d1) (2 * K + 3) (2 * K + 3) (by omega) (by omega) m7 m8).mono ?_; rintro e w102 ⟨v102, rfl, n102, hb102⟩; have B2 := chain2 B1 hb102)
    | (have gk := B0; go_at_call 49; refine (qlevelled_any _ _ _ n1 d1 n2 d2 K hK (Ra.below B0) (Rb.below B0)).mono ?_; rintro e w101 ⟨⟨a7, l7, c7, b7, a8, l8, c8, b8, rfl, m7, m8⟩, hb101⟩; have B1 := chain2 B0 hb101))
  all_goals
    have o1 := p4_cells zr (.slice a5 l5 c5) (.bool b5) (.slice a6 l6 c6) (.bool b6)
    have o2 := p4_below (chain2 hB B6) hle (.slice a5 l5 c5) (.bool b5) (.slice a6 l6 c6) (.bool b6)
    have o3 := n106.keep zr (by decide) (p4_other (.slice a5 l5 c5) (.bool b5) (.slice a6 l6 c6) (.bool b6))
    have HO := hid (And.intro o1 (And.intro o2 o3))
    clear o1 o2 o3 i0 i1 i2 i3 fr zr K3
    generalize (((w106.setCell ⟨w.heap.size + 1 + 1, 0, none⟩ (.slice a5 l5 c5)).setCell ⟨w.heap.size + 1 + 1, 1, none⟩ (.bool b5)).setCell ⟨w.heap.size + 1 + 1, 2, none⟩ (.slice a6 l6 c6)).setCell ⟨w.heap.size + 1 + 1, 3, none⟩ (.bool b6) = X at *
    go_wp2
    obtain ⟨⟨g0, g1, g2, g3⟩, o2, o3⟩ := HO.out
    exact bodyPost_ret (v := .agg #[.slice a5 l5 c5, .bool b5, .slice a6 l6 c6, .bool b6]) (by simp [results, Tryz.results25, go_sem, g0, g1, g2, g3]) rfl ⟨_, rfl, o3, o2⟩
set_option maxHeartbeats 8000000 in
theorem qadd_any (w : World) (a b : Value) (n1 d1 n2 d2 : Int) (K : Nat) (hK : K ≤ 1000000) (ha : RatIs w a n1 d1 K) (hb : RatIs w b n2 d2 K) (h0 : d1 * d2 ≠ 0) :
    Calls Tryz.prog 6 #[a, b] w fun e w' => ∃ v, e = .returned v ∧ RatIs w' v (lowN (n1 * d2 + n2 * d1) (d1 * d2)) (lowD (n1 * d2 + n2 * d1) (d1 * d2)) (2 * K + 12) ∧ Below w.heap.size w w' := by
  have ha0 := ha
  have hb0 := hb
  obtain ⟨a1, l1, c1, a2, l2, c2, rfl, h1, _⟩ := ha
  obtain ⟨a3, l3, c3, a4, l4, c4, rfl, h3, _⟩ := hb
  generalize decide (n1 < 0) = b1 at *
  generalize decide (d1 - 1 < 0) = b2 at *
  generalize decide (n2 < 0) = b3 at *
  generalize decide (d2 - 1 < 0) = b4 at *
  have hx := boxed3_first w (Obj.cells #[.slice a1 l1 c1, .bool b1, .slice a2 l2 c2, .bool b2] 29) (Obj.cells #[.slice a3 l3 c3, .bool b3, .slice a4 l4 c4, .bool b4] 29) (Obj.cells #[.slice none 0 0, .bool false, .slice none 0 0, .bool false] 29)
  have hy := boxed3_second w (Obj.cells #[.slice a1 l1 c1, .bool b1, .slice a2 l2 c2, .bool b2] 29) (Obj.cells #[.slice a3 l3 c3, .bool b3, .slice a4 l4 c4, .bool b4] 29) (Obj.cells #[.slice none 0 0, .bool false, .slice none 0 0, .bool false] 29)
  have hz := boxed3_third w (Obj.cells #[.slice a1 l1 c1, .bool b1, .slice a2 l2 c2, .bool b2] 29) (Obj.cells #[.slice a3 l3 c3, .bool b3, .slice a4 l4 c4, .bool b4] 29) (Obj.cells #[.slice none 0 0, .bool false, .slice none 0 0, .bool false] 29)
  have hB := boxed3 (Below.refl w.heap.size w) (Obj.cells #[.slice a1 l1 c1, .bool b1, .slice a2 l2 c2, .bool b2] 29) (Obj.cells #[.slice a3 l3 c3, .bool b3, .slice a4 l4 c4, .bool b4] 29) (Obj.cells #[.slice none 0 0, .bool false, .slice none 0 0, .bool false] 29)
  have Ra := ha0.below hB
  have Rb := hb0.below hB
  clear h1 h3 ha0 hb0
  obtain ⟨t1, t2, t3, t4⟩ := four_cell hx
  obtain ⟨t5, t6, t7, t8⟩ := four_cell hy
  have hle : w.heap.size ≤ w.heap.size + 1 + 1 := by omega
  go_enter Tryz.func6, Tryz.ntmps6
  go_wp2_with fail
  generalize ((w.alloc (Obj.cells #[.slice a1 l1 c1, .bool b1, .slice a2 l2 c2, .bool b2] 29)).alloc (Obj.cells #[.slice a3 l3 c3, .bool b3, .slice a4 l4 c4, .bool b4] 29)).alloc (Obj.cells #[.slice none 0 0, .bool false, .slice none 0 0, .bool false] 29) = W at *
  refine (qjoined_add _ _ _ n1 d1 n2 d2 K hK Ra Rb h0).mono ?_
  rintro e w2 ⟨v2, rfl, R2, e2⟩
  obtain ⟨a5, l5, c5, b5, a6, l6, c6, b6, rfl⟩ := rat_form R2
  have zr := box_below e2 hz (lt_of_block hz)
  obtain ⟨i0, i1, i2, i3⟩ := four_cell zr
  have fr := p4_free zr
  have o1 := p4_cells zr (.slice a5 l5 c5) (.bool b5) (.slice a6 l6 c6) (.bool b6)
  have o2 := p4_below (chain2 hB e2) hle (.slice a5 l5 c5) (.bool b5) (.slice a6 l6 c6) (.bool b6)
  have o3 := R2.keep zr (by decide) (p4_other (.slice a5 l5 c5) (.bool b5) (.slice a6 l6 c6) (.bool b6))
  have HO := hid (And.intro o1 (And.intro o2 o3))
  clear o1 o2 o3 R2
  go_wp2
  obtain ⟨⟨g0, g1, g2, g3⟩, o2, o3⟩ := HO.out
  exact bodyPost_ret (v := .agg #[.slice a5 l5 c5, .bool b5, .slice a6 l6 c6, .bool b6]) (by simp [results, Tryz.results6, go_sem, g0, g1, g2, g3]) rfl ⟨_, rfl, o3, o2⟩
set_option maxHeartbeats 8000000 in
theorem qjoined_sub (w : World) (a b : Value) (n1 d1 n2 d2 : Int) (K : Nat) (hK : K ≤ 1000000) (ha : RatIs w a n1 d1 K) (hb : RatIs w b n2 d2 K) (h0 : d1 * d2 ≠ 0) :
    Calls Tryz.prog 25 #[.func (.func 10) #[] #[], a, b] w fun e w' => ∃ v, e = .returned v ∧ RatIs w' v (lowN (n1 * d2 - n2 * d1) (d1 * d2)) (lowD (n1 * d2 - n2 * d1) (d1 * d2)) (2 * K + 12) ∧ Below w.heap.size w w' := by
  have ha0 := ha
  have hb0 := hb
  obtain ⟨a1, l1, c1, a2, l2, c2, rfl, h1, _⟩ := ha
  obtain ⟨a3, l3, c3, a4, l4, c4, rfl, h3, _⟩ := hb
  generalize decide (n1 < 0) = b1 at *
  generalize decide (d1 - 1 < 0) = b2 at *
  generalize decide (n2 < 0) = b3 at *
  generalize decide (d2 - 1 < 0) = b4 at *
  have hx := boxed3_first w (Obj.cells #[.slice a1 l1 c1, .bool b1, .slice a2 l2 c2, .bool b2] 29) (Obj.cells #[.slice a3 l3 c3, .bool b3, .slice a4 l4 c4, .bool b4] 29) (Obj.cells #[.slice none 0 0, .bool false, .slice none 0 0, .bool false] 29)
  have hy := boxed3_second w (Obj.cells #[.slice a1 l1 c1, .bool b1, .slice a2 l2 c2, .bool b2] 29) (Obj.cells #[.slice a3 l3 c3, .bool b3, .slice a4 l4 c4, .bool b4] 29) (Obj.cells #[.slice none 0 0, .bool false, .slice none 0 0, .bool false] 29)
  have hz := boxed3_third w (Obj.cells #[.slice a1 l1 c1, .bool b1, .slice a2 l2 c2, .bool b2] 29) (Obj.cells #[.slice a3 l3 c3, .bool b3, .slice a4 l4 c4, .bool b4] 29) (Obj.cells #[.slice none 0 0, .bool false, .slice none 0 0, .bool false] 29)
  have hB := boxed3 (Below.refl w.heap.size w) (Obj.cells #[.slice a1 l1 c1, .bool b1, .slice a2 l2 c2, .bool b2] 29) (Obj.cells #[.slice a3 l3 c3, .bool b3, .slice a4 l4 c4, .bool b4] 29) (Obj.cells #[.slice none 0 0, .bool false, .slice none 0 0, .bool false] 29)
  have Na := h1.below hB
  have Nc := h3.below hB
  have Ra := ha0.below hB
  have Rb := hb0.below hB
  clear h1 h3 ha0 hb0
  go_enter Tryz.func25, Tryz.ntmps25
  go_wp2
  generalize ((w.alloc (Obj.cells #[.slice a1 l1 c1, .bool b1, .slice a2 l2 c2, .bool b2] 29)).alloc (Obj.cells #[.slice a3 l3 c3, .bool b3, .slice a4 l4 c4, .bool b4] 29)).alloc (Obj.cells #[.slice none 0 0, .bool false, .slice none 0 0, .bool false] 29) = W at *
  obtain ⟨t1, t2, t3, t4⟩ := four_cell hx
  obtain ⟨t5, t6, t7, t8⟩ := four_cell hy
  have B0 : Below W.heap.size W W.drew := (Below.refl _ _).drew
  have ne1 : w.heap.size ≠ w.heap.size + 1 + 1 := by omega
  have ne2 : w.heap.size + 1 ≠ w.heap.size + 1 + 1 := by omega
  have hle : w.heap.size ≤ w.heap.size + 1 + 1 := by omega
  go_region_held3 (fun w' => w'.cell? ⟨w.heap.size, 0, none⟩ = some (Value.slice a1 l1 c1) ∧ w'.cell? ⟨w.heap.size, 1, none⟩ = some (Value.bool b1) ∧ w'.cell? ⟨w.heap.size, 2, none⟩ = some (Value.slice a2 l2 c2) ∧ w'.cell? ⟨w.heap.size, 3, none⟩ = some (Value.bool b2) ∧ w'.cell? ⟨w.heap.size + 1, 0, none⟩ = some (Value.slice a3 l3 c3) ∧ w'.cell? ⟨w.heap.size + 1, 1, none⟩ = some (Value.bool b3) ∧ w'.cell? ⟨w.heap.size + 1, 2, none⟩ = some (Value.slice a4 l4 c4) ∧ w'.cell? ⟨w.heap.size + 1, 3, none⟩ = some (Value.bool b4)) ((first | exact K3 | (refine keepQ t1 t2 t3 t4 t5 t6 t7 t8 ?_; first | exact B0 | exact B1 | exact B2 | exact B3 | exact B4 | exact B5 | exact B6))) (first
    | (have gk := B5; go_at_call 48; refine (qlow_any _ _ _ (n1 * d2 - n2 * d1) (d1 * d2) (2 * K + 6) (by omega) h0 ((n102.below (chain2 (chain2 hb103 hb104) hb105)).mono (by omega)) (n105.mono (by omega))).mono ?_; rintro e w106 ⟨v106, rfl, n106, hb106⟩; have B6 := chain2 B5 hb106; obtain ⟨a5, l5, c5, b5, a6, l6, c6, b6, rfl⟩ := rat_form n106; have zr := box_below B6 hz (lt_of_block hz); obtain ⟨i0, i1, i2, i3⟩ := four_cell zr; have fr := p4_free zr; have K3 := p4_keepQ (keepQ t1 t2 t3 t4 t5 t6 t7 t8 B6) ne1 ne2 (.slice a5 l5 c5) (.bool b5) (.slice a6 l6 c6) (.bool b6))
    | (have gk := B4; go_at_call 58; refine (nmul_any _ _ _ d1 d2 (K + 3) (K + 3) (by omega) (by omega) (n103.below hb104) n104).mono ?_; rintro e w105 ⟨v105, rfl, n105, hb105⟩; have B5 := chain2 B4 hb105)
    | (have gk := B3; go_at_call 29; refine (qden_any _ _ n2 d2 K (by omega) (Rb.below B3)).mono ?_; rintro e w104 ⟨v104, rfl, n104, hb104⟩; have B4 := chain2 B3 hb104)
    | (have gk := B2; go_at_call 29; refine (qden_any _ _ n1 d1 K (by omega) (Ra.below B2)).mono ?_; rintro e w103 ⟨v103, rfl, n103, hb103⟩; have B3 := chain2 B2 hb103)
    | (have gk := B1; go_at_call 10; refine (nsub_any _ _ _ (n1 * d2) (n2 * d1) (2 * K + 3) (2 * K + 3) (by omega) (by omega) m7 m8).mono ?_; rintro e w102 ⟨v102, rfl, n102, hb102⟩; have B2 := chain2 B1 hb102)
    | (have gk := B0; go_at_call 49; refine (qlevelled_any _ _ _ n1 d1 n2 d2 K hK (Ra.below B0) (Rb.below B0)).mono ?_; rintro e w101 ⟨⟨a7, l7, c7, b7, a8, l8, c8, b8, rfl, m7, m8⟩, hb101⟩; have B1 := chain2 B0 hb101))
  all_goals
    have o1 := p4_cells zr (.slice a5 l5 c5) (.bool b5) (.slice a6 l6 c6) (.bool b6)
    have o2 := p4_below (chain2 hB B6) hle (.slice a5 l5 c5) (.bool b5) (.slice a6 l6 c6) (.bool b6)
    have o3 := n106.keep zr (by decide) (p4_other (.slice a5 l5 c5) (.bool b5) (.slice a6 l6 c6) (.bool b6))
    have HO := hid (And.intro o1 (And.intro o2 o3))
    clear o1 o2 o3 i0 i1 i2 i3 fr zr K3
    generalize (((w106.setCell ⟨w.heap.size + 1 + 1, 0, none⟩ (.slice a5 l5 c5)).setCell ⟨w.heap.size + 1 + 1, 1, none⟩ (.bool b5)).setCell ⟨w.heap.size + 1 + 1, 2, none⟩ (.slice a6 l6 c6)).setCell ⟨w.heap.size + 1 + 1, 3, none⟩ (.bool b6) = X at *
    go_wp2
    obtain ⟨⟨g0, g1, g2, g3⟩, o2, o3⟩ := HO.out
    exact bodyPost_ret (v := .agg #[.slice a5 l5 c5, .bool b5, .slice a6 l6 c6, .bool b6]) (by simp [results, Tryz.results25, go_sem, g0, g1, g2, g3]) rfl ⟨_, rfl, o3, o2⟩
set_option maxHeartbeats 8000000 in
theorem qsub_any (w : World) (a b : Value) (n1 d1 n2 d2 : Int) (K : Nat) (hK : K ≤ 1000000) (ha : RatIs w a n1 d1 K) (hb : RatIs w b n2 d2 K) (h0 : d1 * d2 ≠ 0) :
    Calls Tryz.prog 20 #[a, b] w fun e w' => ∃ v, e = .returned v ∧ RatIs w' v (lowN (n1 * d2 - n2 * d1) (d1 * d2)) (lowD (n1 * d2 - n2 * d1) (d1 * d2)) (2 * K + 12) ∧ Below w.heap.size w w' := by
  have ha0 := ha
  have hb0 := hb
  obtain ⟨a1, l1, c1, a2, l2, c2, rfl, h1, _⟩ := ha
  obtain ⟨a3, l3, c3, a4, l4, c4, rfl, h3, _⟩ := hb
  generalize decide (n1 < 0) = b1 at *
  generalize decide (d1 - 1 < 0) = b2 at *
  generalize decide (n2 < 0) = b3 at *
  generalize decide (d2 - 1 < 0) = b4 at *
  have hx := boxed3_first w (Obj.cells #[.slice a1 l1 c1, .bool b1, .slice a2 l2 c2, .bool b2] 29) (Obj.cells #[.slice a3 l3 c3, .bool b3, .slice a4 l4 c4, .bool b4] 29) (Obj.cells #[.slice none 0 0, .bool false, .slice none 0 0, .bool false] 29)
  have hy := boxed3_second w (Obj.cells #[.slice a1 l1 c1, .bool b1, .slice a2 l2 c2, .bool b2] 29) (Obj.cells #[.slice a3 l3 c3, .bool b3, .slice a4 l4 c4, .bool b4] 29) (Obj.cells #[.slice none 0 0, .bool false, .slice none 0 0, .bool false] 29)
  have hz := boxed3_third w (Obj.cells #[.slice a1 l1 c1, .bool b1, .slice a2 l2 c2, .bool b2] 29) (Obj.cells #[.slice a3 l3 c3, .bool b3, .slice a4 l4 c4, .bool b4] 29) (Obj.cells #[.slice none 0 0, .bool false, .slice none 0 0, .bool false] 29)
  have hB := boxed3 (Below.refl w.heap.size w) (Obj.cells #[.slice a1 l1 c1, .bool b1, .slice a2 l2 c2, .bool b2] 29) (Obj.cells #[.slice a3 l3 c3, .bool b3, .slice a4 l4 c4, .bool b4] 29) (Obj.cells #[.slice none 0 0, .bool false, .slice none 0 0, .bool false] 29)
  have Ra := ha0.below hB
  have Rb := hb0.below hB
  clear h1 h3 ha0 hb0
  obtain ⟨t1, t2, t3, t4⟩ := four_cell hx
  obtain ⟨t5, t6, t7, t8⟩ := four_cell hy
  have hle : w.heap.size ≤ w.heap.size + 1 + 1 := by omega
  go_enter Tryz.func20, Tryz.ntmps20
  go_wp2_with fail
  generalize ((w.alloc (Obj.cells #[.slice a1 l1 c1, .bool b1, .slice a2 l2 c2, .bool b2] 29)).alloc (Obj.cells #[.slice a3 l3 c3, .bool b3, .slice a4 l4 c4, .bool b4] 29)).alloc (Obj.cells #[.slice none 0 0, .bool false, .slice none 0 0, .bool false] 29) = W at *
  refine (qjoined_sub _ _ _ n1 d1 n2 d2 K hK Ra Rb h0).mono ?_
  rintro e w2 ⟨v2, rfl, R2, e2⟩
  obtain ⟨a5, l5, c5, b5, a6, l6, c6, b6, rfl⟩ := rat_form R2
  have zr := box_below e2 hz (lt_of_block hz)
  obtain ⟨i0, i1, i2, i3⟩ := four_cell zr
  have fr := p4_free zr
  have o1 := p4_cells zr (.slice a5 l5 c5) (.bool b5) (.slice a6 l6 c6) (.bool b6)
  have o2 := p4_below (chain2 hB e2) hle (.slice a5 l5 c5) (.bool b5) (.slice a6 l6 c6) (.bool b6)
  have o3 := R2.keep zr (by decide) (p4_other (.slice a5 l5 c5) (.bool b5) (.slice a6 l6 c6) (.bool b6))
  have HO := hid (And.intro o1 (And.intro o2 o3))
  clear o1 o2 o3 R2
  go_wp2
  obtain ⟨⟨g0, g1, g2, g3⟩, o2, o3⟩ := HO.out
  exact bodyPost_ret (v := .agg #[.slice a5 l5 c5, .bool b5, .slice a6 l6 c6, .bool b6]) (by simp [results, Tryz.results20, go_sem, g0, g1, g2, g3]) rfl ⟨_, rfl, o3, o2⟩
end Go.Proofs.YtjldlmonccgopaaGreatDoor
