/- RatMakes: what the call answers. -/
import Derived.Test.YtaioogdengcgbaaGreatDoorPk4
import Derived.Test.YtaioogdengcgbaaGreatDoorPk18
import Derived.Test.YtaioogdengcgbaaGreatDoorPk25
import Derived.Test.YtaioogdengcgbaaGreatDoorPk29
import Derived.Test.YtaioogdengcgbaaGreatDoorZQMake
namespace Go.Proofs.YtaioogdengcgbaaGreatDoor
open Go.RowKit
set_option linter.unusedVariables false
set_option maxRecDepth 100000
set_option linter.unusedSimpArgs false
attribute [local go_sem ↓] Go.wp_at_zero Go.wp_at_succ

open Classical in
noncomputable def zE (s : ByteArray) : Int := if ∃ z, ZTx s z then 0 else 10
theorem zE_cases (s : ByteArray) : (zE s = 0 ∧ ∃ z, ZTx s z) ∨ zE s = 10 := by
  by_cases h : ∃ z, ZTx s z
  · exact Or.inl ⟨by rw [zE, if_pos h], h⟩
  · exact Or.inr (by rw [zE, if_neg h])
theorem mkD_sign (x y : Int) : signZ (mkD x y) = 1 := by
  unfold mkD
  by_cases h : y = 0
  · rw [if_pos h]; rfl
  · rw [if_neg h]
    have h1 := low_ne (x := x) h
    have h2 : 0 ≤ lowD x y := Int.natCast_nonneg _
    unfold signZ
    rw [if_neg (by omega), if_pos (by omega)]
theorem keepQ {W X : World} {p q : Nat} {x0 x1 x2 x3 y0 y1 y2 y3 : Value} (h0 : W.cell? ⟨p, 0, none⟩ = some x0) (h1 : W.cell? ⟨p, 1, none⟩ = some x1) (h2 : W.cell? ⟨p, 2, none⟩ = some x2) (h3 : W.cell? ⟨p, 3, none⟩ = some x3) (k0 : W.cell? ⟨q, 0, none⟩ = some y0) (k1 : W.cell? ⟨q, 1, none⟩ = some y1) (k2 : W.cell? ⟨q, 2, none⟩ = some y2) (k3 : W.cell? ⟨q, 3, none⟩ = some y3) (h : Below W.heap.size W X) :
    X.cell? ⟨p, 0, none⟩ = some x0 ∧ X.cell? ⟨p, 1, none⟩ = some x1 ∧ X.cell? ⟨p, 2, none⟩ = some x2 ∧ X.cell? ⟨p, 3, none⟩ = some x3 ∧ X.cell? ⟨q, 0, none⟩ = some y0 ∧ X.cell? ⟨q, 1, none⟩ = some y1 ∧ X.cell? ⟨q, 2, none⟩ = some y2 ∧ X.cell? ⟨q, 3, none⟩ = some y3 := ⟨kc h h0, kc h h1, kc h h2, kc h h3, kc h k0, kc h k1, kc h k2, kc h k3⟩
theorem nparse_both (s : ByteArray) (w : World) (hs : s.size ≤ 1000000000) :
    Calls Tryz.prog 38 #[.string s] w fun e w' => ∃ ao l c d, e = .returned (.tuple #[.agg #[.slice ao l c, .bool d], .int .i64 (zE s)]) ∧ (∀ z, ZTx s z → NumIs w' (.agg #[.slice ao l c, .bool d]) z (s.size / 9 + 1)) ∧ Below w.heap.size w w' := by
  by_cases h : ∃ z, ZTx s z
  · obtain ⟨z, hz⟩ := h
    refine (nparse_z s z w hs hz).mono ?_
    rintro e w' ⟨ao, l, c, rfl, h1, h2⟩
    refine ⟨ao, l, c, _, by rw [zE, if_pos ⟨z, hz⟩], fun z' hz' => ?_, h2⟩
    obtain rfl := hz.uniq hz'
    exact ⟨ao, l, c, rfl, h1⟩
  · refine (nparse_none s w hs (fun z hz => h ⟨z, hz⟩)).mono ?_
    rintro e w' ⟨rfl, h2⟩
    exact ⟨none, 0, 0, false, by rw [zE, if_neg h], fun z hz => absurd ⟨z, hz⟩ h, h2⟩
theorem sparse_both (s : ByteArray) (w : World) (hs : s.size ≤ 1000000000) :
    Calls Tryz.prog 39 #[.string s] w fun e w' => ∃ ao l c d, e = .returned (.tuple #[.agg #[.bool d, .slice ao l c], .int .i64 (zE s)]) ∧ (∀ z, ZTx s z → RNumIs w' (.agg #[.bool d, .slice ao l c]) z (s.size / 9 + 1)) ∧ Below w.heap.size w w' := by
  by_cases h : ∃ z, ZTx s z
  · obtain ⟨z, hz⟩ := h
    refine (sparse_z s z w hs hz).mono ?_
    rintro e w' ⟨ao, l, c, rfl, h1, h2⟩
    refine ⟨ao, l, c, _, by rw [zE, if_pos ⟨z, hz⟩], fun z' hz' => ?_, h2⟩
    obtain rfl := hz.uniq hz'
    exact ⟨ao, l, c, rfl, h1⟩
  · refine (sparse_none s w hs (fun z hz => h ⟨z, hz⟩)).mono ?_
    rintro e w' ⟨rfl, h2⟩
    exact ⟨none, 0, 0, false, by rw [zE, if_neg h], fun z hz => absurd ⟨z, hz⟩ h, h2⟩
theorem tmake_any (w : World) (a b : Value) (x y : Int) (K : Nat) (hK : K ≤ 100000000) (ha : RNumIs w a x K) (hb : RNumIs w b y K) :
    Calls Tryz.prog 40 #[a, b] w fun e w' => (∃ a1 l1 c1 d1 a2 l2 c2 d2, e = .returned (.tuple #[.agg #[.bool d1, .slice a1 l1 c1, .bool d2, .slice a2 l2 c2], .int .i64 (mkE y)]) ∧ TRatIs w' (.agg #[.bool d1, .slice a1 l1 c1, .bool d2, .slice a2 l2 c2]) (mkN x y) (mkD x y) K) ∧ Below w.heap.size w w' := by
  by_cases h : y = 0
  · subst h
    refine (tmake_zero w a b x K hK ha hb).mono ?_
    rintro e w' ⟨rfl, h2⟩
    exact ⟨⟨none, 0, 0, false, none, 0, 0, false, by simp [mkE], by simp only [mkN, mkD, if_pos]; exact ⟨none, 0, 0, none, 0, 0, 0, rfl, ⟨none, 0, 0, rfl, (ref_zero w').mono (Nat.zero_le _)⟩, ⟨none, 0, 0, rfl, (ref_zero w').mono (Nat.zero_le _)⟩, Or.inr ⟨rfl, rfl⟩⟩⟩, h2⟩
  · obtain ⟨a1, l1, c1, b1, rfl⟩ := rnum_form ha
    obtain ⟨a2, l2, c2, b2, rfl⟩ := rnum_form hb
    refine (tmake_walk w a1 a2 l1 c1 l2 c2 b1 b2 x y K hK h ha hb).mono ?_
    rintro e w' ⟨⟨v, rfl, T⟩, h2⟩
    have T' := T
    obtain ⟨a3, l3, c3, a4, l4, c4, m, rfl, _⟩ := T'
    exact ⟨⟨a3, l3, c3, _, a4, l4, c4, _, by rw [mkE, if_neg h], by rw [mkN, if_neg h, mkD, if_neg h]; exact T⟩, h2⟩
set_option maxRecDepth 100000 in
set_option maxHeartbeats 8000000 in
theorem qmakes_any (x y : ByteArray) (w : World) (htab : Tab w) :
    Calls Tryz.prog 7 #[.string x, .string y] w fun e w' => e = .returned (.bool true) ∧ Below w.heap.size w w' := by
  have hb0 : Below w.heap.size w (w.alloc (Obj.cells #[.string x, .string y] 9)) := (Below.refl _ _).alloc (Nat.le_refl _) _
  go_enter Tryz.func7, Tryz.ntmps7
  go_wp2_with fail
  refine (long3_any _ w.heap.size 2 [x, y] (by omega) ?_).mono ?_
  · intro k hk
    match k, hk with
    | 0, _ => simp [go_sem, sg]
    | 1, _ => simp [go_sem, sg]
  rintro e w1 ⟨h | ⟨h, hsz⟩, rfl⟩
  · rw [h]
    go_wp2
    go_ret
    exact ⟨rfl, hb0⟩
  rw [h]
  have hx := hsz 0 (by omega)
  have hy := hsz 1 (by omega)
  simp only [sg, List.getD_cons_zero, List.getD_cons_succ] at hx hy
  clear hsz h
  generalize w.alloc (Obj.cells #[.string x, .string y] 9) = w1 at *
  go_wp2_with fail
  refine (nparse_both x _ (by omega)).mono ?_
  rintro e u1 ⟨a1, l1, c1, d1, rfl, F1, hb1⟩
  have X1 := below_alloc' hb1 (Nat.le_refl _) (Obj.cells #[Value.slice a1 l1 c1, Value.bool d1] 28)
  have C1 := chain2 hb0 X1
  have D1 := (Below.refl u1.heap.size u1).alloc (Nat.le_refl _) (Obj.cells #[Value.slice a1 l1 c1, Value.bool d1] 28)
  have G1 : ∀ z, ZTx x z → NumIs (u1.alloc (Obj.cells #[Value.slice a1 l1 c1, Value.bool d1] 28)) (Value.agg #[Value.slice a1 l1 c1, Value.bool d1]) z 60 := fun z h => ((F1 z h).below D1).mono (by omega)
  have q1 := box_new u1 (Obj.cells #[Value.slice a1 l1 c1, Value.bool d1] 28)
  clear F1 hb1 D1 X1 hb0
  go_wp2_with fail
  generalize u1.alloc (Obj.cells #[Value.slice a1 l1 c1, Value.bool d1] 28) = W1 at *
  generalize u1.heap.size = g1 at *
  refine (nparse_both y _ (by omega)).mono ?_
  rintro e u2 ⟨a2, l2, c2, d2, rfl, F2, hb2⟩
  have X2 := below_alloc' hb2 (Nat.le_refl _) (Obj.cells #[Value.slice a2 l2 c2, Value.bool d2] 28)
  have C2 := chain2 C1 X2
  have D2 := (Below.refl u2.heap.size u2).alloc (Nat.le_refl _) (Obj.cells #[Value.slice a2 l2 c2, Value.bool d2] 28)
  have G2 : ∀ z, ZTx y z → NumIs (u2.alloc (Obj.cells #[Value.slice a2 l2 c2, Value.bool d2] 28)) (Value.agg #[Value.slice a2 l2 c2, Value.bool d2]) z 60 := fun z h => ((F2 z h).below D2).mono (by omega)
  have G1 : ∀ z, ZTx x z → NumIs (u2.alloc (Obj.cells #[Value.slice a2 l2 c2, Value.bool d2] 28)) (Value.agg #[Value.slice a1 l1 c1, Value.bool d1]) z 60 := fun z h => (G1 z h).below X2
  have q1 := box_below X2 q1 (lt_of_block q1)
  have q2 := box_new u2 (Obj.cells #[Value.slice a2 l2 c2, Value.bool d2] 28)
  clear F2 hb2 D2 X2 C1
  go_wp2_with fail
  generalize u2.alloc (Obj.cells #[Value.slice a2 l2 c2, Value.bool d2] 28) = W2 at *
  generalize u2.heap.size = g2 at *
  refine (sparse_both x _ (by omega)).mono ?_
  rintro e u3 ⟨a3, l3, c3, d3, rfl, F3, hb3⟩
  have X3 := below_alloc' hb3 (Nat.le_refl _) (Obj.cells #[Value.bool d3, Value.slice a3 l3 c3] 35)
  have C3 := chain2 C2 X3
  have D3 := (Below.refl u3.heap.size u3).alloc (Nat.le_refl _) (Obj.cells #[Value.bool d3, Value.slice a3 l3 c3] 35)
  have G3 : ∀ z, ZTx x z → RNumIs (u3.alloc (Obj.cells #[Value.bool d3, Value.slice a3 l3 c3] 35)) (Value.agg #[Value.bool d3, Value.slice a3 l3 c3]) z 60 := fun z h => ((F3 z h).below D3).mono (by omega)
  have G1 : ∀ z, ZTx x z → NumIs (u3.alloc (Obj.cells #[Value.bool d3, Value.slice a3 l3 c3] 35)) (Value.agg #[Value.slice a1 l1 c1, Value.bool d1]) z 60 := fun z h => (G1 z h).below X3
  have q1 := box_below X3 q1 (lt_of_block q1)
  have G2 : ∀ z, ZTx y z → NumIs (u3.alloc (Obj.cells #[Value.bool d3, Value.slice a3 l3 c3] 35)) (Value.agg #[Value.slice a2 l2 c2, Value.bool d2]) z 60 := fun z h => (G2 z h).below X3
  have q2 := box_below X3 q2 (lt_of_block q2)
  have q3 := box_new u3 (Obj.cells #[Value.bool d3, Value.slice a3 l3 c3] 35)
  clear F3 hb3 D3 X3 C2
  go_wp2_with fail
  generalize u3.alloc (Obj.cells #[Value.bool d3, Value.slice a3 l3 c3] 35) = W3 at *
  generalize u3.heap.size = g3 at *
  refine (sparse_both y _ (by omega)).mono ?_
  rintro e u4 ⟨a4, l4, c4, d4, rfl, F4, hb4⟩
  have X4 := below_alloc' hb4 (Nat.le_refl _) (Obj.cells #[Value.bool d4, Value.slice a4 l4 c4] 35)
  have C4 := chain2 C3 X4
  have D4 := (Below.refl u4.heap.size u4).alloc (Nat.le_refl _) (Obj.cells #[Value.bool d4, Value.slice a4 l4 c4] 35)
  have G4 : ∀ z, ZTx y z → RNumIs (u4.alloc (Obj.cells #[Value.bool d4, Value.slice a4 l4 c4] 35)) (Value.agg #[Value.bool d4, Value.slice a4 l4 c4]) z 60 := fun z h => ((F4 z h).below D4).mono (by omega)
  have G1 : ∀ z, ZTx x z → NumIs (u4.alloc (Obj.cells #[Value.bool d4, Value.slice a4 l4 c4] 35)) (Value.agg #[Value.slice a1 l1 c1, Value.bool d1]) z 60 := fun z h => (G1 z h).below X4
  have q1 := box_below X4 q1 (lt_of_block q1)
  have G2 : ∀ z, ZTx y z → NumIs (u4.alloc (Obj.cells #[Value.bool d4, Value.slice a4 l4 c4] 35)) (Value.agg #[Value.slice a2 l2 c2, Value.bool d2]) z 60 := fun z h => (G2 z h).below X4
  have q2 := box_below X4 q2 (lt_of_block q2)
  have G3 : ∀ z, ZTx x z → RNumIs (u4.alloc (Obj.cells #[Value.bool d4, Value.slice a4 l4 c4] 35)) (Value.agg #[Value.bool d3, Value.slice a3 l3 c3]) z 60 := fun z h => (G3 z h).below X4
  have q3 := box_below X4 q3 (lt_of_block q3)
  have q4 := box_new u4 (Obj.cells #[Value.bool d4, Value.slice a4 l4 c4] 35)
  clear F4 hb4 D4 X4 C3
  rcases zE_cases x with ⟨e1, X, hX⟩ | e1 <;> rcases zE_cases y with ⟨e2, Y, hY⟩ | e2 <;> rw [e1, e2] <;> clear e1 e2
  · have Na := G1 X hX
    have Nb := G2 Y hY
    have Ma := G3 X hX
    have Mb := G4 Y hY
    clear G1 G2 G3 G4 hX hY
    have t1 := two_cell0 q1
    have t2 := two_cell1 q1
    have t3 := two_cell0 q2
    have t4 := two_cell1 q2
    go_wp2_with fail
    generalize u4.alloc (Obj.cells #[Value.bool d4, Value.slice a4 l4 c4] 35) = W4 at *
    generalize u4.heap.size = g4 at *
    refine (qmake_any _ _ _ X Y 60 (by omega) Na Nb).mono ?_
    rintro e u5 ⟨⟨a5, l5, c5, d5, a6, l6, c6, d6, rfl, n5⟩, hb5⟩
    have X5 := below_alloc' hb5 (Nat.le_refl _) (Obj.cells #[Value.slice a5 l5 c5, Value.bool d5, Value.slice a6 l6 c6, Value.bool d6] 30)
    have C5 := chain2 C4 X5
    have N5 := n5.below ((Below.refl u5.heap.size u5).alloc (Nat.le_refl _) (Obj.cells #[Value.slice a5 l5 c5, Value.bool d5, Value.slice a6 l6 c6, Value.bool d6] 30))
    have Mp := Ma.below X5
    have Mq := Mb.below X5
    have z3 := box_below X5 q3 (lt_of_block q3)
    have z4 := box_below X5 q4 (lt_of_block q4)
    have z5 := box_new u5 (Obj.cells #[Value.slice a5 l5 c5, Value.bool d5, Value.slice a6 l6 c6, Value.bool d6] 30)
    clear Na Nb Ma Mb q1 q2 q3 q4 t1 t2 t3 t4 n5 hb5 X5 C4
    have t1 := two_cell0 z3
    have t2 := two_cell1 z3
    have t3 := two_cell0 z4
    have t4 := two_cell1 z4
    have HD := hid (mkD_sign X Y)
    go_wp2_with fail
    generalize u5.alloc (Obj.cells #[Value.slice a5 l5 c5, Value.bool d5, Value.slice a6 l6 c6, Value.bool d6] 30) = W5 at *
    generalize u5.heap.size = g5 at *
    refine (tmake_any _ _ _ X Y 60 (by omega) Mp Mq).mono ?_
    rintro e u6 ⟨⟨a7, l7, c7, d7, a8, l8, c8, d8, rfl, n6⟩, hb6⟩
    have X6 := below_alloc' hb6 (Nat.le_refl _) (Obj.cells #[Value.bool d7, Value.slice a7 l7 c7, Value.bool d8, Value.slice a8 l8 c8] 37)
    have C6 := chain2 C5 X6
    have N6 := n6.below ((Below.refl u6.heap.size u6).alloc (Nat.le_refl _) (Obj.cells #[Value.bool d7, Value.slice a7 l7 c7, Value.bool d8, Value.slice a8 l8 c8] 37))
    have N5 := N5.below X6
    have y5 := box_below X6 z5 (lt_of_block z5)
    have y6 := box_new u6 (Obj.cells #[Value.bool d7, Value.slice a7 l7 c7, Value.bool d8, Value.slice a8 l8 c8] 37)
    have tabE := htab.below C6
    obtain ⟨t5, t6, t7, t8⟩ := four_cell y5
    obtain ⟨t9, t10, t11, t12⟩ := four_cell y6
    clear n6 hb6 X6 C5 z3 z4 z5 t1 t2 t3 t4 Mp Mq y5 y6
    generalize mkE Y = E at *
    generalize mkN X Y = P at *
    generalize mkD X Y = Q at *
    go_wp2
    generalize u6.alloc (Obj.cells #[Value.bool d7, Value.slice a7 l7 c7, Value.bool d8, Value.slice a8 l8 c8] 37) = X0 at *
    generalize u6.heap.size = g6 at *
    have B0 : Below X0.heap.size X0 X0.drew := (Below.refl _ _).drew
    try simp only [List.append_eq, List.cons_append, List.nil_append]
    go_region_held3 (fun w' => w'.cell? ⟨g5, 0, none⟩ = some (Value.slice a5 l5 c5) ∧ w'.cell? ⟨g5, 1, none⟩ = some (Value.bool d5) ∧ w'.cell? ⟨g5, 2, none⟩ = some (Value.slice a6 l6 c6) ∧ w'.cell? ⟨g5, 3, none⟩ = some (Value.bool d6) ∧ w'.cell? ⟨g6, 0, none⟩ = some (Value.bool d7) ∧ w'.cell? ⟨g6, 1, none⟩ = some (Value.slice a7 l7 c7) ∧ w'.cell? ⟨g6, 2, none⟩ = some (Value.bool d8) ∧ w'.cell? ⟨g6, 3, none⟩ = some (Value.slice a8 l8 c8)) ((refine keepQ t5 t6 t7 t8 t9 t10 t11 t12 ?_; first | exact B0 | exact B1 | exact B2 | exact B3 | exact B4 | exact B5 | exact B6 | exact B7 | exact B8)) (first
      | (have gk := B7; go_at_call 33; refine (stext_any _ _ _ _ (by omega) n107).mono ?_; rintro e w108 ⟨⟨s108, rfl, h108⟩, hb108⟩; have B8 := chain2 B7 hb108; rw [h108.inj h106])
      | (have gk := B6; go_at_call 34; refine (tden_any _ _ _ _ 60 (by omega) (N6.below B6)).mono ?_; rintro e w107 ⟨v107, rfl, n107, hb107⟩; have B7 := chain2 B6 hb107)
      | (have gk := B5; go_at_call 32; refine (ntext_any _ _ _ _ (by omega) n105 (tabE.below B5)).mono ?_; rintro e w106 ⟨⟨s106, rfl, h106⟩, hb106⟩; have B6 := chain2 B5 hb106)
      | (have gk := B4; go_at_call 24; refine (qden_any _ _ _ _ 66 (by omega) (N5.below B4)).mono ?_; rintro e w105 ⟨v105, rfl, n105, hb105⟩; have B5 := chain2 B4 hb105)
      | (have gk := B3; go_at_call 29; refine (nsign_any _ _ _ _ (by omega) n103).mono ?_; rintro e w104 ⟨rfl, hb104⟩; have B4 := chain2 B3 hb104; rw [HD.out])
      | (have gk := B2; go_at_call 24; refine (qden_any _ _ _ _ 66 (by omega) (N5.below B2)).mono ?_; rintro e w103 ⟨v103, rfl, n103, hb103⟩; have B3 := chain2 B2 hb103)
      | (have gk := B1; go_at_call 31; refine (ttext_any _ _ _ _ 60 (by omega) (N6.below B1)).mono ?_; rintro e w102 ⟨⟨s102, rfl, h102⟩, hb102⟩; have B2 := chain2 B1 hb102; rw [h102.inj h101])
      | (have gk := B0; go_at_call 27; refine (qtext_any _ _ _ _ 66 (by omega) (N5.below B0) (tabE.below B0)).mono ?_; rintro e w101 ⟨⟨s101, rfl, h101⟩, hb101⟩; have B1 := chain2 B0 hb101))
    all_goals
      have g9 := chain2 C6 B8
      clear B0 B1 B2 B3 B4 B5 B6 B7 B8 hb101 hb102 hb103 hb104 hb105 hb106 hb107 hb108
      go_wp2
      go_ret
      exact ⟨rfl, g9⟩
  all_goals
    clear G1 G2 G3 G4 q1 q2 q3 q4
    go_wp2
    go_ret
    exact ⟨rfl, C4⟩
end Go.Proofs.YtaioogdengcgbaaGreatDoor
