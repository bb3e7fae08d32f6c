/- RatLaws: the law's walk. -/
import Derived.Test.YtnmfffgcepobpaaGreatDoorPk37
import Derived.Test.YtnmfffgcepobpaaGreatDoorPk31
import Derived.Test.YtnmfffgcepobpaaGreatDoorZPNumber
namespace Go.Proofs.YtnmfffgcepobpaaGreatDoor
open Go.RowKit
set_option linter.unusedVariables false
set_option maxRecDepth 100000
set_option linter.unusedSimpArgs false
attribute [local go_sem ↓] Go.wp_at_zero Go.wp_at_succ

theorem keep16 {W X : World} {p0 p1 p2 p3 p4 p5 p6 p7 p8 p9 p10 p11 p12 p13 p14 p15 : Addr} {x0 x1 x2 x3 x4 x5 x6 x7 x8 x9 x10 x11 x12 x13 x14 x15 : Value} (h0 : W.cell? p0 = some x0) (h1 : W.cell? p1 = some x1) (h2 : W.cell? p2 = some x2) (h3 : W.cell? p3 = some x3) (h4 : W.cell? p4 = some x4) (h5 : W.cell? p5 = some x5) (h6 : W.cell? p6 = some x6) (h7 : W.cell? p7 = some x7) (h8 : W.cell? p8 = some x8) (h9 : W.cell? p9 = some x9) (h10 : W.cell? p10 = some x10) (h11 : W.cell? p11 = some x11) (h12 : W.cell? p12 = some x12) (h13 : W.cell? p13 = some x13) (h14 : W.cell? p14 = some x14) (h15 : W.cell? p15 = some x15) (h : Below W.heap.size W X) : X.cell? p0 = some x0 ∧ X.cell? p1 = some x1 ∧ X.cell? p2 = some x2 ∧ X.cell? p3 = some x3 ∧ X.cell? p4 = some x4 ∧ X.cell? p5 = some x5 ∧ X.cell? p6 = some x6 ∧ X.cell? p7 = some x7 ∧ X.cell? p8 = some x8 ∧ X.cell? p9 = some x9 ∧ X.cell? p10 = some x10 ∧ X.cell? p11 = some x11 ∧ X.cell? p12 = some x12 ∧ X.cell? p13 = some x13 ∧ X.cell? p14 = some x14 ∧ X.cell? p15 = some x15 := ⟨kc h h0, kc h h1, kc h h2, kc h h3, kc h h4, kc h h5, kc h h6, kc h h7, kc h h8, kc h h9, kc h h10, kc h h11, kc h h12, kc h h13, kc h h14, kc h h15⟩
theorem keep12 {W X : World} {p0 p1 p2 p3 p4 p5 p6 p7 p8 p9 p10 p11 : Addr} {x0 x1 x2 x3 x4 x5 x6 x7 x8 x9 x10 x11 : Value} (h0 : W.cell? p0 = some x0) (h1 : W.cell? p1 = some x1) (h2 : W.cell? p2 = some x2) (h3 : W.cell? p3 = some x3) (h4 : W.cell? p4 = some x4) (h5 : W.cell? p5 = some x5) (h6 : W.cell? p6 = some x6) (h7 : W.cell? p7 = some x7) (h8 : W.cell? p8 = some x8) (h9 : W.cell? p9 = some x9) (h10 : W.cell? p10 = some x10) (h11 : W.cell? p11 = some x11) (h : Below W.heap.size W X) : X.cell? p0 = some x0 ∧ X.cell? p1 = some x1 ∧ X.cell? p2 = some x2 ∧ X.cell? p3 = some x3 ∧ X.cell? p4 = some x4 ∧ X.cell? p5 = some x5 ∧ X.cell? p6 = some x6 ∧ X.cell? p7 = some x7 ∧ X.cell? p8 = some x8 ∧ X.cell? p9 = some x9 ∧ X.cell? p10 = some x10 ∧ X.cell? p11 = some x11 := ⟨kc h h0, kc h h1, kc h h2, kc h h3, kc h h4, kc h h5, kc h h6, kc h h7, kc h h8, kc h h9, kc h h10, kc h h11⟩
theorem id_back (n1 m1 n2 m2 : Int) : ((n1 * m2 + n2 * m1) * m2 - n2 * (m1 * m2)) * m1 = n1 * (m1 * m2 * m2) := by grind
theorem id_dist (n1 m1 n2 m2 n3 m3 : Int) : (n1 * n2 * (m1 * m3) + n1 * n3 * (m1 * m2)) * (m1 * (m2 * m3)) = n1 * (n2 * m3 + n3 * m2) * (m1 * m2 * (m1 * m3)) := by grind
theorem id_sum (n1 m1 n2 m2 n3 m3 : Int) : ((n3 * m1 + n1 * m3) * m2 + n2 * (m3 * m1)) * (m1 * m2 * m3) = ((n1 * m2 + n2 * m1) * m3 + n3 * (m1 * m2)) * (m3 * m1 * m2) := by grind
theorem id_prod (n1 m1 n2 m2 n3 m3 : Int) : n3 * n1 * n2 * (m1 * m2 * m3) = n1 * n2 * n3 * (m3 * m1 * m2) := by grind
theorem id_quo (n1 m1 n2 m2 : Int) : n1 * m2 * n2 * m1 = n1 * (m1 * n2 * m2) := by grind
theorem evr {N D X Y : Int} {w : World} {v : Value} {K : Nat} (p : Ev N D X Y) (r : RatIs w v N D K) : ∃ N D, Hid (Ev N D X Y) ∧ RatIs w v N D K := ⟨_, _, p, r⟩
set_option maxHeartbeats 40000000 in
theorem qlaws_any (x y z : ByteArray) (w : World) (hm : Mx w) (htab : Tab w) :
    Calls Tryz.prog 5 #[.string x, .string y, .string z] w fun e w' => e = .returned (.bool true) ∧ Below w.heap.size w w' := by
  have C0 : Below w.heap.size w (w.alloc (Obj.cells #[.string x, .string y, .string z] 9)) := (Below.refl _ _).alloc (Nat.le_refl _) _
  go_enter Tryz.func5, Tryz.ntmps5
  go_wp2_with fail
  refine (long3_any _ w.heap.size 3 [x, y, z] (by omega) ?_).mono ?_
  · intro k hk
    match k, hk with
    | 0, _ => simp [go_sem, sg]
    | 1, _ => simp [go_sem, sg]
    | 2, _ => simp [go_sem, sg]
  rintro e w1 ⟨h | ⟨h, hsz⟩, rfl⟩
  · rw [h]
    go_wp2
    go_ret
    exact ⟨rfl, C0⟩
  rw [h]
  have hx := hsz 0 (by omega)
  have hy := hsz 1 (by omega)
  have hz := hsz 2 (by omega)
  simp only [sg, List.getD_cons_zero, List.getD_cons_succ] at hx hy hz
  clear hsz h
  generalize w.alloc (Obj.cells #[.string x, .string y, .string z] 9) = w1 at *
  go_wp2_with fail
  refine (number3_any x _ (by omega) (hm.below C0) (htab.below C0)).mono ?_
  rintro e u1 ⟨⟨a1, l1, c1, d1, a2, l2, c2, d2, a3, l3, c3, d3, a4, l4, c4, d4, bb1, rfl, F1⟩, e1⟩
  have x1 := boxed2_first u1 (Obj.cells #[Value.slice a1 l1 c1, Value.bool d1, Value.slice a2 l2 c2, Value.bool d2] 29) (Obj.cells #[Value.bool d3, Value.slice a3 l3 c3, Value.bool d4, Value.slice a4 l4 c4] 36)
  have y1 := boxed2_second u1 (Obj.cells #[Value.slice a1 l1 c1, Value.bool d1, Value.slice a2 l2 c2, Value.bool d2] 29) (Obj.cells #[Value.bool d3, Value.slice a3 l3 c3, Value.bool d4, Value.slice a4 l4 c4] 36)
  have H1 := boxed2 (Below.refl u1.heap.size u1) (Obj.cells #[Value.slice a1 l1 c1, Value.bool d1, Value.slice a2 l2 c2, Value.bool d2] 29) (Obj.cells #[Value.bool d3, Value.slice a3 l3 c3, Value.bool d4, Value.slice a4 l4 c4] 36)
  have X1 := chain2 e1 H1
  have C1 := chain2 C0 X1
  have F1 := fun h => (show ∃ n d, Can x n d ∧ RatIs _ (.agg #[Value.slice a1 l1 c1, Value.bool d1, Value.slice a2 l2 c2, Value.bool d2]) n d 40 ∧ TRatIs _ (.agg #[Value.bool d3, Value.slice a3 l3 c3, Value.bool d4, Value.slice a4 l4 c4]) n d 40 from by
    obtain ⟨n, d, g1, g2, g3⟩ := F1 h
    exact ⟨n, d, g1, (g2.below H1).mono (by omega), (g3.below H1).mono (by omega)⟩)
  clear e1 H1
  go_wp2_with fail
  generalize (u1.alloc (Obj.cells #[Value.slice a1 l1 c1, Value.bool d1, Value.slice a2 l2 c2, Value.bool d2] 29)).alloc (Obj.cells #[Value.bool d3, Value.slice a3 l3 c3, Value.bool d4, Value.slice a4 l4 c4] 36) = W1 at *
  generalize u1.heap.size = k1 at *
  refine (number3_any y _ (by omega) (hm.below C1) (htab.below C1)).mono ?_
  rintro e u2 ⟨⟨a5, l5, c5, d5, a6, l6, c6, d6, a7, l7, c7, d7, a8, l8, c8, d8, bb2, rfl, F2⟩, e2⟩
  have x2 := boxed2_first u2 (Obj.cells #[Value.slice a5 l5 c5, Value.bool d5, Value.slice a6 l6 c6, Value.bool d6] 29) (Obj.cells #[Value.bool d7, Value.slice a7 l7 c7, Value.bool d8, Value.slice a8 l8 c8] 36)
  have y2 := boxed2_second u2 (Obj.cells #[Value.slice a5 l5 c5, Value.bool d5, Value.slice a6 l6 c6, Value.bool d6] 29) (Obj.cells #[Value.bool d7, Value.slice a7 l7 c7, Value.bool d8, Value.slice a8 l8 c8] 36)
  have H2 := boxed2 (Below.refl u2.heap.size u2) (Obj.cells #[Value.slice a5 l5 c5, Value.bool d5, Value.slice a6 l6 c6, Value.bool d6] 29) (Obj.cells #[Value.bool d7, Value.slice a7 l7 c7, Value.bool d8, Value.slice a8 l8 c8] 36)
  have X2 := chain2 e2 H2
  have C2 := chain2 C1 X2
  have F2 := fun h => (show ∃ n d, Can y n d ∧ RatIs _ (.agg #[Value.slice a5 l5 c5, Value.bool d5, Value.slice a6 l6 c6, Value.bool d6]) n d 40 ∧ TRatIs _ (.agg #[Value.bool d7, Value.slice a7 l7 c7, Value.bool d8, Value.slice a8 l8 c8]) n d 40 from by
    obtain ⟨n, d, g1, g2, g3⟩ := F2 h
    exact ⟨n, d, g1, (g2.below H2).mono (by omega), (g3.below H2).mono (by omega)⟩)
  clear e2 H2
  have x1 := box_below X2 x1 (lt_of_block x1)
  have F1 := fun h => (show ∃ n d, Can x n d ∧ RatIs _ (.agg #[Value.slice a1 l1 c1, Value.bool d1, Value.slice a2 l2 c2, Value.bool d2]) n d 40 ∧ TRatIs _ (.agg #[Value.bool d3, Value.slice a3 l3 c3, Value.bool d4, Value.slice a4 l4 c4]) n d 40 from by
    obtain ⟨n, d, g1, g2, g3⟩ := F1 h
    exact ⟨n, d, g1, g2.below X2, g3.below X2⟩)
  go_wp2_with fail
  generalize (u2.alloc (Obj.cells #[Value.slice a5 l5 c5, Value.bool d5, Value.slice a6 l6 c6, Value.bool d6] 29)).alloc (Obj.cells #[Value.bool d7, Value.slice a7 l7 c7, Value.bool d8, Value.slice a8 l8 c8] 36) = W2 at *
  generalize u2.heap.size = k2 at *
  refine (number3_any z _ (by omega) (hm.below C2) (htab.below C2)).mono ?_
  rintro e u3 ⟨⟨a9, l9, c9, d9, a10, l10, c10, d10, a11, l11, c11, d11, a12, l12, c12, d12, bb3, rfl, F3⟩, e3⟩
  have x3 := boxed2_first u3 (Obj.cells #[Value.slice a9 l9 c9, Value.bool d9, Value.slice a10 l10 c10, Value.bool d10] 29) (Obj.cells #[Value.bool d11, Value.slice a11 l11 c11, Value.bool d12, Value.slice a12 l12 c12] 36)
  have y3 := boxed2_second u3 (Obj.cells #[Value.slice a9 l9 c9, Value.bool d9, Value.slice a10 l10 c10, Value.bool d10] 29) (Obj.cells #[Value.bool d11, Value.slice a11 l11 c11, Value.bool d12, Value.slice a12 l12 c12] 36)
  have H3 := boxed2 (Below.refl u3.heap.size u3) (Obj.cells #[Value.slice a9 l9 c9, Value.bool d9, Value.slice a10 l10 c10, Value.bool d10] 29) (Obj.cells #[Value.bool d11, Value.slice a11 l11 c11, Value.bool d12, Value.slice a12 l12 c12] 36)
  have X3 := chain2 e3 H3
  have C3 := chain2 C2 X3
  have F3 := fun h => (show ∃ n d, Can z n d ∧ RatIs _ (.agg #[Value.slice a9 l9 c9, Value.bool d9, Value.slice a10 l10 c10, Value.bool d10]) n d 40 ∧ TRatIs _ (.agg #[Value.bool d11, Value.slice a11 l11 c11, Value.bool d12, Value.slice a12 l12 c12]) n d 40 from by
    obtain ⟨n, d, g1, g2, g3⟩ := F3 h
    exact ⟨n, d, g1, (g2.below H3).mono (by omega), (g3.below H3).mono (by omega)⟩)
  clear e3 H3
  have x1 := box_below X3 x1 (lt_of_block x1)
  have F1 := fun h => (show ∃ n d, Can x n d ∧ RatIs _ (.agg #[Value.slice a1 l1 c1, Value.bool d1, Value.slice a2 l2 c2, Value.bool d2]) n d 40 ∧ TRatIs _ (.agg #[Value.bool d3, Value.slice a3 l3 c3, Value.bool d4, Value.slice a4 l4 c4]) n d 40 from by
    obtain ⟨n, d, g1, g2, g3⟩ := F1 h
    exact ⟨n, d, g1, g2.below X3, g3.below X3⟩)
  have x2 := box_below X3 x2 (lt_of_block x2)
  have F2 := fun h => (show ∃ n d, Can y n d ∧ RatIs _ (.agg #[Value.slice a5 l5 c5, Value.bool d5, Value.slice a6 l6 c6, Value.bool d6]) n d 40 ∧ TRatIs _ (.agg #[Value.bool d7, Value.slice a7 l7 c7, Value.bool d8, Value.slice a8 l8 c8]) n d 40 from by
    obtain ⟨n, d, g1, g2, g3⟩ := F2 h
    exact ⟨n, d, g1, g2.below X3, g3.below X3⟩)
  cases bb1
  · clear F1 F2 F3
    go_wp2
    go_ret
    exact ⟨rfl, C3⟩
  cases bb2
  · clear F1 F2 F3
    go_wp2
    go_ret
    exact ⟨rfl, C3⟩
  cases bb3
  · clear F1 F2 F3
    go_wp2
    go_ret
    exact ⟨rfl, C3⟩
  obtain ⟨n1, m1, K1, Ra, _⟩ := F1 rfl
  obtain ⟨n2, m2, K2, Rb, _⟩ := F2 rfl
  obtain ⟨n3, m3, K3, Rc, _⟩ := F3 rfl
  clear F1 F2 F3 X1 X2 X3 C1 C2 y1 y2 y3
  have ea := hid (Ev.self K1.pos K1.cop)
  have eb := hid (Ev.self K2.pos K2.cop)
  have ec := hid (Ev.self K3.pos K3.cop)
  have HS := hid K1.tx
  have p1 : 0 < m1 := by have := K1.pos; omega
  have p2 : 0 < m2 := by have := K2.pos; omega
  have HP := hid (And.intro p1 (And.intro p2 (Int.mul_pos p1 p2)))
  clear K1 K2 K3 p1 p2
  obtain ⟨t0, t1, t2, t3⟩ := four_cell x1
  obtain ⟨t4, t5, t6, t7⟩ := four_cell x2
  obtain ⟨t8, t9, t10, t11⟩ := four_cell x3
  go_wp2_with fail
  generalize (u3.alloc (Obj.cells #[Value.slice a9 l9 c9, Value.bool d9, Value.slice a10 l10 c10, Value.bool d10] 29)).alloc (Obj.cells #[Value.bool d11, Value.slice a11 l11 c11, Value.bool d12, Value.slice a12 l12 c12] 36) = W3 at *
  generalize u3.heap.size = k3 at *
  refine (qdiv_any _ _ _ n1 m1 n2 m2 40 (by omega) Ra Rb).mono ?_
  rintro e u4 ⟨⟨a13, l13, c13, d13, a14, l14, c14, d14, rfl, Rq⟩, e4⟩
  have X4 := below_alloc' e4 (Nat.le_refl _) (Obj.cells #[Value.slice a13 l13 c13, Value.bool d13, Value.slice a14 l14 c14, Value.bool d14] 29)
  have x1 := box_below X4 x1 (lt_of_block x1)
  have x2 := box_below X4 x2 (lt_of_block x2)
  have x3 := box_below X4 x3 (lt_of_block x3)
  have x4 := box_new u4 (Obj.cells #[Value.slice a13 l13 c13, Value.bool d13, Value.slice a14 l14 c14, Value.bool d14] 29)
  have Rq := Rq.below ((Below.refl u4.heap.size u4).alloc (Nat.le_refl _) (Obj.cells #[Value.slice a13 l13 c13, Value.bool d13, Value.slice a14 l14 c14, Value.bool d14] 29))
  have Ra := Ra.below X4
  have Rb := Rb.below X4
  have Rc := Rc.below X4
  have C4 := chain2 C3 X4
  have T4 := htab.below C4
  clear e4 X4 C3 t0 t1 t2 t3 t4 t5 t6 t7 t8 t9 t10 t11
  obtain ⟨t0, t1, t2, t3⟩ := four_cell x1
  obtain ⟨t4, t5, t6, t7⟩ := four_cell x2
  obtain ⟨t8, t9, t10, t11⟩ := four_cell x3
  obtain ⟨t12, t13, t14, t15⟩ := four_cell x4
  have hcb : -1 ≤ cmpZ (n2 * m1) (n1 * m2) ∧ cmpZ (n2 * m1) (n1 * m2) ≤ 1 := by
    unfold cmpZ
    (repeat' split) <;> omega
  obtain ⟨cc, HC2⟩ : ∃ cc, Hid (cmpZ (n2 * m1) (n1 * m2) = cc) := ⟨_, rfl⟩
  have HC := hid (show cmpZ (n1 * m2) (n2 * m1) = -cc by rw [cmp_neg, HC2.out])
  rw [HC2.out] at hcb
  have HSn := hid (show signZ (lowN (n1 * m2 - n2 * m1) (m1 * m2)) = -cc by rw [sign_low HP.out.2.2, sign_sub, HC.out])
  have hw : IntKind.i64.wrap (-cc) = -cc := by
    have := hcb
    simp [IntKind.wrap, IntKind.signed, IntKind.bits, IntKind.min, IntKind.max]
    omega
  clear hcb
  by_cases hn2 : n2 = 0
  · have hE : mkE (m1 * n2) = 12 := by unfold mkE; rw [hn2, Int.mul_zero, if_pos rfl]
    rw [hE]
    have HSg := hid (show signZ n2 = 0 by rw [hn2]; rfl)
    clear hE hn2 Rq
    go_wp2_with fail
    generalize u4.alloc (Obj.cells #[Value.slice a13 l13 c13, Value.bool d13, Value.slice a14 l14 c14, Value.bool d14] 29) = W4 at *
    generalize u4.heap.size = k4 at *
    refine (qsign_any _ _ n2 m2 40 (by omega) Rb).mono ?_
    rintro e u5 ⟨rfl, e5⟩
    rw [HSg.out]
    have x1 := box_below e5 x1 (lt_of_block x1)
    have x2 := box_below e5 x2 (lt_of_block x2)
    have x3 := box_below e5 x3 (lt_of_block x3)
    have Ra := Ra.below e5
    have Rb := Rb.below e5
    have Rc := Rc.below e5
    have C5 := chain2 C4 e5
    have T5 := T4.below e5
    clear t0 t1 t2 t3 t4 t5 t6 t7 t8 t9 t10 t11
    obtain ⟨t0, t1, t2, t3⟩ := four_cell x1
    obtain ⟨t4, t5, t6, t7⟩ := four_cell x2
    obtain ⟨t8, t9, t10, t11⟩ := four_cell x3
    clear e5 C4 T4
    have B0 : Below u5.heap.size u5 u5.drew := (Below.refl _ _).drew
    clear x1 x2 x3
    go_wp2
    try simp only [List.append_eq, List.cons_append, List.nil_append]
    go_region_held3 (fun w' => w'.cell? ⟨k1, 0, none⟩ = some (Value.slice a1 l1 c1) ∧ w'.cell? ⟨k1, 1, none⟩ = some (Value.bool d1) ∧ w'.cell? ⟨k1, 2, none⟩ = some (Value.slice a2 l2 c2) ∧ w'.cell? ⟨k1, 3, none⟩ = some (Value.bool d2) ∧ w'.cell? ⟨k2, 0, none⟩ = some (Value.slice a5 l5 c5) ∧ w'.cell? ⟨k2, 1, none⟩ = some (Value.bool d5) ∧ w'.cell? ⟨k2, 2, none⟩ = some (Value.slice a6 l6 c6) ∧ w'.cell? ⟨k2, 3, none⟩ = some (Value.bool d6) ∧ w'.cell? ⟨k3, 0, none⟩ = some (Value.slice a9 l9 c9) ∧ w'.cell? ⟨k3, 1, none⟩ = some (Value.bool d9) ∧ w'.cell? ⟨k3, 2, none⟩ = some (Value.slice a10 l10 c10) ∧ w'.cell? ⟨k3, 3, none⟩ = some (Value.bool d10)) ((refine keep12 t0 t1 t2 t3 t4 t5 t6 t7 t8 t9 t10 t11 ?_; first | exact B0 | exact B1 | exact B2 | exact B3 | exact B4 | exact B5 | exact B6 | exact B7 | exact B8 | exact B9 | exact B10 | exact B11 | exact B12 | exact B13 | exact B14 | exact B15 | exact B16 | exact B17 | exact B18 | exact B19 | exact B20 | exact B21 | exact B22 | exact B23 | exact B24 | exact B25 | exact B26 | exact B27)) (first
        | (have gk := B26; go_at_call 31; refine (qcmp_any _ _ _ n1 m1 n2 m2 40 (by omega) (Ra.below B26) (Rb.below B26)).mono ?_; rintro e w127 ⟨rfl, hb127⟩; have B27 := chain2 B26 hb127; rw [HC.out])
        | (have gk := B25; go_at_call 28; refine (qsign_any _ _ _ _ _ (by omega) n125).mono ?_; rintro e w126 ⟨rfl, hb126⟩; have B26 := chain2 B25 hb126; rw [HSn.out])
        | (have gk := B24; go_at_call 30; refine (qsub_any _ _ _ n1 m1 n2 m2 40 (by omega) (Ra.below B24) (Rb.below B24) (Ev.nz ea.out eb.out)).mono ?_; rintro e w125 ⟨v125, rfl, n125, hb125⟩; have B25 := chain2 B24 hb125)
        | (have gk := B23; go_at_call 31; refine (qcmp_any _ _ _ n2 m2 n1 m1 40 (by omega) (Rb.below B23) (Ra.below B23)).mono ?_; rintro e w124 ⟨rfl, hb124⟩; have B24 := chain2 B23 hb124; rw [HC2.out])
        | (have gk := B22; go_at_call 31; refine (qcmp_any _ _ _ n1 m1 n2 m2 40 (by omega) (Ra.below B22) (Rb.below B22)).mono ?_; rintro e w123 ⟨rfl, hb123⟩; have B23 := chain2 B22 hb123; rw [HC.out])
        | (have gk := B21; go_at_call 23; refine (qtext_any _ _ _ _ _ (by omega) n121 (T5.below B21)).mono ?_; rintro e w122 ⟨⟨s122, rfl, h122⟩, hb122⟩; have B22 := chain2 B21 hb122; rw [Ev.text p121.out p118.out (id_prod n1 m1 n2 m2 n3 m3) h122 h119])
        | (have gk := B20; go_at_call 29; refine (qmul_any _ _ _ _ _ _ _ 92 (by omega) (n120.mono (by omega)) ((Rb.below B20).mono (by omega)) (Ev.nz p120.out eb.out)).mono ?_; rintro e w121 ⟨v121, rfl, n121, hb121⟩; have B21 := chain2 B20 hb121; obtain ⟨N121, D121, p121, n121⟩ := evr (Ev.mul p120.out eb.out) n121)
        | (have gk := B19; go_at_call 29; refine (qmul_any _ _ _ _ _ _ _ 40 (by omega) ((Rc.below B19).mono (by omega)) ((Ra.below B19).mono (by omega)) (Ev.nz ec.out ea.out)).mono ?_; rintro e w120 ⟨v120, rfl, n120, hb120⟩; have B20 := chain2 B19 hb120; obtain ⟨N120, D120, p120, n120⟩ := evr (Ev.mul ec.out ea.out) n120)
        | (have gk := B18; go_at_call 23; refine (qtext_any _ _ _ _ _ (by omega) n118 (T5.below B18)).mono ?_; rintro e w119 ⟨⟨s119, rfl, h119⟩, hb119⟩; have B19 := chain2 B18 hb119)
        | (have gk := B17; go_at_call 29; refine (qmul_any _ _ _ _ _ _ _ 92 (by omega) (n117.mono (by omega)) ((Rc.below B17).mono (by omega)) (Ev.nz p117.out ec.out)).mono ?_; rintro e w118 ⟨v118, rfl, n118, hb118⟩; have B18 := chain2 B17 hb118; obtain ⟨N118, D118, p118, n118⟩ := evr (Ev.mul p117.out ec.out) n118)
        | (have gk := B16; go_at_call 29; refine (qmul_any _ _ _ _ _ _ _ 40 (by omega) ((Ra.below B16).mono (by omega)) ((Rb.below B16).mono (by omega)) (Ev.nz ea.out eb.out)).mono ?_; rintro e w117 ⟨v117, rfl, n117, hb117⟩; have B17 := chain2 B16 hb117; obtain ⟨N117, D117, p117, n117⟩ := evr (Ev.mul ea.out eb.out) n117)
        | (have gk := B15; go_at_call 23; refine (qtext_any _ _ _ _ _ (by omega) n115 (T5.below B15)).mono ?_; rintro e w116 ⟨⟨s116, rfl, h116⟩, hb116⟩; have B16 := chain2 B15 hb116; rw [Ev.text p115.out p112.out (id_sum n1 m1 n2 m2 n3 m3) h116 h113])
        | (have gk := B14; go_at_call 9; refine (qadd_any _ _ _ _ _ _ _ 92 (by omega) (n114.mono (by omega)) ((Rb.below B14).mono (by omega)) (Ev.nz p114.out eb.out)).mono ?_; rintro e w115 ⟨v115, rfl, n115, hb115⟩; have B15 := chain2 B14 hb115; obtain ⟨N115, D115, p115, n115⟩ := evr (Ev.add p114.out eb.out) n115)
        | (have gk := B13; go_at_call 9; refine (qadd_any _ _ _ _ _ _ _ 40 (by omega) ((Rc.below B13).mono (by omega)) ((Ra.below B13).mono (by omega)) (Ev.nz ec.out ea.out)).mono ?_; rintro e w114 ⟨v114, rfl, n114, hb114⟩; have B14 := chain2 B13 hb114; obtain ⟨N114, D114, p114, n114⟩ := evr (Ev.add ec.out ea.out) n114)
        | (have gk := B12; go_at_call 23; refine (qtext_any _ _ _ _ _ (by omega) n112 (T5.below B12)).mono ?_; rintro e w113 ⟨⟨s113, rfl, h113⟩, hb113⟩; have B13 := chain2 B12 hb113)
        | (have gk := B11; go_at_call 9; refine (qadd_any _ _ _ _ _ _ _ 92 (by omega) (n111.mono (by omega)) ((Rc.below B11).mono (by omega)) (Ev.nz p111.out ec.out)).mono ?_; rintro e w112 ⟨v112, rfl, n112, hb112⟩; have B12 := chain2 B11 hb112; obtain ⟨N112, D112, p112, n112⟩ := evr (Ev.add p111.out ec.out) n112)
        | (have gk := B10; go_at_call 9; refine (qadd_any _ _ _ _ _ _ _ 40 (by omega) ((Ra.below B10).mono (by omega)) ((Rb.below B10).mono (by omega)) (Ev.nz ea.out eb.out)).mono ?_; rintro e w111 ⟨v111, rfl, n111, hb111⟩; have B11 := chain2 B10 hb111; obtain ⟨N111, D111, p111, n111⟩ := evr (Ev.add ea.out eb.out) n111)
        | (have gk := B9; go_at_call 23; refine (qtext_any _ _ _ _ _ (by omega) n109 (T5.below B9)).mono ?_; rintro e w110 ⟨⟨s110, rfl, h110⟩, hb110⟩; have B10 := chain2 B9 hb110; rw [Ev.text p109.out p105.out (id_dist n1 m1 n2 m2 n3 m3) h110 h106])
        | (have gk := B8; go_at_call 9; refine (qadd_any _ _ _ _ _ _ _ 92 (by omega) ((n107.below hb108).mono (by omega)) (n108.mono (by omega)) (Ev.nz p107.out p108.out)).mono ?_; rintro e w109 ⟨v109, rfl, n109, hb109⟩; have B9 := chain2 B8 hb109; obtain ⟨N109, D109, p109, n109⟩ := evr (Ev.add p107.out p108.out) n109)
        | (have gk := B7; go_at_call 29; refine (qmul_any _ _ _ _ _ _ _ 40 (by omega) ((Ra.below B7).mono (by omega)) ((Rc.below B7).mono (by omega)) (Ev.nz ea.out ec.out)).mono ?_; rintro e w108 ⟨v108, rfl, n108, hb108⟩; have B8 := chain2 B7 hb108; obtain ⟨N108, D108, p108, n108⟩ := evr (Ev.mul ea.out ec.out) n108)
        | (have gk := B6; go_at_call 29; refine (qmul_any _ _ _ _ _ _ _ 40 (by omega) ((Ra.below B6).mono (by omega)) ((Rb.below B6).mono (by omega)) (Ev.nz ea.out eb.out)).mono ?_; rintro e w107 ⟨v107, rfl, n107, hb107⟩; have B7 := chain2 B6 hb107; obtain ⟨N107, D107, p107, n107⟩ := evr (Ev.mul ea.out eb.out) n107)
        | (have gk := B5; go_at_call 23; refine (qtext_any _ _ _ _ _ (by omega) n105 (T5.below B5)).mono ?_; rintro e w106 ⟨⟨s106, rfl, h106⟩, hb106⟩; have B6 := chain2 B5 hb106)
        | (have gk := B4; go_at_call 29; refine (qmul_any _ _ _ _ _ _ _ 92 (by omega) ((Ra.below B4).mono (by omega)) (n104.mono (by omega)) (Ev.nz ea.out p104.out)).mono ?_; rintro e w105 ⟨v105, rfl, n105, hb105⟩; have B5 := chain2 B4 hb105; obtain ⟨N105, D105, p105, n105⟩ := evr (Ev.mul ea.out p104.out) n105)
        | (have gk := B3; go_at_call 9; refine (qadd_any _ _ _ _ _ _ _ 40 (by omega) ((Rb.below B3).mono (by omega)) ((Rc.below B3).mono (by omega)) (Ev.nz eb.out ec.out)).mono ?_; rintro e w104 ⟨v104, rfl, n104, hb104⟩; have B4 := chain2 B3 hb104; obtain ⟨N104, D104, p104, n104⟩ := evr (Ev.add eb.out ec.out) n104)
        | (have gk := B2; go_at_call 23; refine (qtext_any _ _ _ _ _ (by omega) n102 (T5.below B2)).mono ?_; rintro e w103 ⟨⟨s103, rfl, h103⟩, hb103⟩; have B3 := chain2 B2 hb103; rw [Ev.text p102.out ea.out (id_back n1 m1 n2 m2) h103 HS.out])
        | (have gk := B1; go_at_call 30; refine (qsub_any _ _ _ _ _ _ _ 92 (by omega) (n101.mono (by omega)) ((Rb.below B1).mono (by omega)) (Ev.nz p101.out eb.out)).mono ?_; rintro e w102 ⟨v102, rfl, n102, hb102⟩; have B2 := chain2 B1 hb102; obtain ⟨N102, D102, p102, n102⟩ := evr (Ev.sub p101.out eb.out) n102)
        | (have gk := B0; go_at_call 9; refine (qadd_any _ _ _ _ _ _ _ 40 (by omega) ((Ra.below B0).mono (by omega)) ((Rb.below B0).mono (by omega)) (Ev.nz ea.out eb.out)).mono ?_; rintro e w101 ⟨v101, rfl, n101, hb101⟩; have B1 := chain2 B0 hb101; obtain ⟨N101, D101, p101, n101⟩ := evr (Ev.add ea.out eb.out) n101))
    all_goals
      have g9 := chain2 C5 B27
      clear B0 B1 B2 B3 B4 B5 B6 B7 B8 B9 B10 B11 B12 B13 B14 B15 B16 B17 B18 B19 B20 B21 B22 B23 B24 B25 B26 B27 hb101 hb102 hb103 hb104 hb105 hb106 hb107 hb108 hb109 hb110 hb111 hb112 hb113 hb114 hb115 hb116 hb117 hb118 hb119 hb120 hb121 hb122 hb123 hb124 hb125 hb126 hb127
      go_wp2
      go_ret
      exact ⟨rfl, g9⟩
  · have hE : mkE (m1 * n2) = 0 := by unfold mkE; rw [if_neg (Int.mul_ne_zero (by have := HP.out.1; omega) hn2)]
    rw [hE]
    have hz0 : m1 * n2 ≠ 0 := Int.mul_ne_zero (by have := HP.out.1; omega) hn2
    obtain ⟨sg2, HSg⟩ : ∃ sg2, Hid (signZ n2 = sg2) := ⟨_, rfl⟩
    have hsg : (sg2 == 0) = false := by
      rw [← HSg.out]; unfold signZ; (repeat' split) <;> first | rfl | omega
    have hsg2 : (sg2 != 0) = true := by rw [bne, hsg]; rfl
    have hsg3 : ¬ sg2 = 0 := beq_eq_false_iff_ne.1 hsg
    rw [mkN, if_neg hz0, mkD, if_neg hz0] at Rq
    have eq := hid (Ev.low (x := n1 * m2) (y := m1 * n2) (X := n1 * m2) (Y := m1 * n2) hz0 hz0 rfl)
    generalize lowN (n1 * m2) (m1 * n2) = P at *
    generalize lowD (n1 * m2) (m1 * n2) = Q at *
    clear hE hn2 hz0
    go_wp2_with fail
    generalize u4.alloc (Obj.cells #[Value.slice a13 l13 c13, Value.bool d13, Value.slice a14 l14 c14, Value.bool d14] 29) = W4 at *
    generalize u4.heap.size = k4 at *
    refine (qsign_any _ _ n2 m2 40 (by omega) Rb).mono ?_
    rintro e u5 ⟨rfl, e5⟩
    rw [HSg.out]
    have x1 := box_below e5 x1 (lt_of_block x1)
    have x2 := box_below e5 x2 (lt_of_block x2)
    have x3 := box_below e5 x3 (lt_of_block x3)
    have Ra := Ra.below e5
    have Rb := Rb.below e5
    have Rc := Rc.below e5
    have C5 := chain2 C4 e5
    have T5 := T4.below e5
    clear t0 t1 t2 t3 t4 t5 t6 t7 t8 t9 t10 t11
    obtain ⟨t0, t1, t2, t3⟩ := four_cell x1
    obtain ⟨t4, t5, t6, t7⟩ := four_cell x2
    obtain ⟨t8, t9, t10, t11⟩ := four_cell x3
    have x4 := box_below e5 x4 (lt_of_block x4)
    have Rq := Rq.below e5
    clear t12 t13 t14 t15
    obtain ⟨t12, t13, t14, t15⟩ := four_cell x4
    clear e5 C4 T4
    go_wp2_with fail
    refine (qmul_any _ _ _ P Q n2 m2 89 (by omega) Rq (Rb.mono (by omega)) (Ev.nz eq.out eb.out)).mono ?_
    rintro e u6 ⟨v6, rfl, n6, e6⟩
    obtain ⟨N6, D6, p6, n6⟩ := evr (Ev.mul eq.out eb.out) n6
    go_wp2_with fail
    refine (qtext_any _ _ _ _ _ (by omega) n6 (T5.below e6)).mono ?_
    rintro e u7 ⟨⟨s7, rfl, h7⟩, e7⟩
    rw [Ev.text p6.out ea.out (id_quo n1 m1 n2 m2) h7 HS.out]
    have E7 := chain2 e6 e7
    have x1 := box_below E7 x1 (lt_of_block x1)
    have x2 := box_below E7 x2 (lt_of_block x2)
    have x3 := box_below E7 x3 (lt_of_block x3)
    have Ra := Ra.below E7
    have Rb := Rb.below E7
    have Rc := Rc.below E7
    have C7 := chain2 C5 E7
    have T7 := T5.below E7
    clear t0 t1 t2 t3 t4 t5 t6 t7 t8 t9 t10 t11
    obtain ⟨t0, t1, t2, t3⟩ := four_cell x1
    obtain ⟨t4, t5, t6, t7⟩ := four_cell x2
    obtain ⟨t8, t9, t10, t11⟩ := four_cell x3
    clear e6 e7 E7 C5 T5 p6 n6 h7 t12 t13 t14 t15 x4 Rq hsg hsg2 hsg3
    have B0 : Below u7.heap.size u7 u7.drew := (Below.refl _ _).drew
    clear x1 x2 x3
    go_wp2
    try simp only [List.append_eq, List.cons_append, List.nil_append]
    go_region_held3 (fun w' => w'.cell? ⟨k1, 0, none⟩ = some (Value.slice a1 l1 c1) ∧ w'.cell? ⟨k1, 1, none⟩ = some (Value.bool d1) ∧ w'.cell? ⟨k1, 2, none⟩ = some (Value.slice a2 l2 c2) ∧ w'.cell? ⟨k1, 3, none⟩ = some (Value.bool d2) ∧ w'.cell? ⟨k2, 0, none⟩ = some (Value.slice a5 l5 c5) ∧ w'.cell? ⟨k2, 1, none⟩ = some (Value.bool d5) ∧ w'.cell? ⟨k2, 2, none⟩ = some (Value.slice a6 l6 c6) ∧ w'.cell? ⟨k2, 3, none⟩ = some (Value.bool d6) ∧ w'.cell? ⟨k3, 0, none⟩ = some (Value.slice a9 l9 c9) ∧ w'.cell? ⟨k3, 1, none⟩ = some (Value.bool d9) ∧ w'.cell? ⟨k3, 2, none⟩ = some (Value.slice a10 l10 c10) ∧ w'.cell? ⟨k3, 3, none⟩ = some (Value.bool d10)) ((refine keep12 t0 t1 t2 t3 t4 t5 t6 t7 t8 t9 t10 t11 ?_; first | exact B0 | exact B1 | exact B2 | exact B3 | exact B4 | exact B5 | exact B6 | exact B7 | exact B8 | exact B9 | exact B10 | exact B11 | exact B12 | exact B13 | exact B14 | exact B15 | exact B16 | exact B17 | exact B18 | exact B19 | exact B20 | exact B21 | exact B22 | exact B23 | exact B24 | exact B25 | exact B26 | exact B27)) (first
        | (have gk := B26; go_at_call 31; refine (qcmp_any _ _ _ n1 m1 n2 m2 40 (by omega) (Ra.below B26) (Rb.below B26)).mono ?_; rintro e w127 ⟨rfl, hb127⟩; have B27 := chain2 B26 hb127; rw [HC.out])
        | (have gk := B25; go_at_call 28; refine (qsign_any _ _ _ _ _ (by omega) n125).mono ?_; rintro e w126 ⟨rfl, hb126⟩; have B26 := chain2 B25 hb126; rw [HSn.out])
        | (have gk := B24; go_at_call 30; refine (qsub_any _ _ _ n1 m1 n2 m2 40 (by omega) (Ra.below B24) (Rb.below B24) (Ev.nz ea.out eb.out)).mono ?_; rintro e w125 ⟨v125, rfl, n125, hb125⟩; have B25 := chain2 B24 hb125)
        | (have gk := B23; go_at_call 31; refine (qcmp_any _ _ _ n2 m2 n1 m1 40 (by omega) (Rb.below B23) (Ra.below B23)).mono ?_; rintro e w124 ⟨rfl, hb124⟩; have B24 := chain2 B23 hb124; rw [HC2.out])
        | (have gk := B22; go_at_call 31; refine (qcmp_any _ _ _ n1 m1 n2 m2 40 (by omega) (Ra.below B22) (Rb.below B22)).mono ?_; rintro e w123 ⟨rfl, hb123⟩; have B23 := chain2 B22 hb123; rw [HC.out])
        | (have gk := B21; go_at_call 23; refine (qtext_any _ _ _ _ _ (by omega) n121 (T7.below B21)).mono ?_; rintro e w122 ⟨⟨s122, rfl, h122⟩, hb122⟩; have B22 := chain2 B21 hb122; rw [Ev.text p121.out p118.out (id_prod n1 m1 n2 m2 n3 m3) h122 h119])
        | (have gk := B20; go_at_call 29; refine (qmul_any _ _ _ _ _ _ _ 92 (by omega) (n120.mono (by omega)) ((Rb.below B20).mono (by omega)) (Ev.nz p120.out eb.out)).mono ?_; rintro e w121 ⟨v121, rfl, n121, hb121⟩; have B21 := chain2 B20 hb121; obtain ⟨N121, D121, p121, n121⟩ := evr (Ev.mul p120.out eb.out) n121)
        | (have gk := B19; go_at_call 29; refine (qmul_any _ _ _ _ _ _ _ 40 (by omega) ((Rc.below B19).mono (by omega)) ((Ra.below B19).mono (by omega)) (Ev.nz ec.out ea.out)).mono ?_; rintro e w120 ⟨v120, rfl, n120, hb120⟩; have B20 := chain2 B19 hb120; obtain ⟨N120, D120, p120, n120⟩ := evr (Ev.mul ec.out ea.out) n120)
        | (have gk := B18; go_at_call 23; refine (qtext_any _ _ _ _ _ (by omega) n118 (T7.below B18)).mono ?_; rintro e w119 ⟨⟨s119, rfl, h119⟩, hb119⟩; have B19 := chain2 B18 hb119)
        | (have gk := B17; go_at_call 29; refine (qmul_any _ _ _ _ _ _ _ 92 (by omega) (n117.mono (by omega)) ((Rc.below B17).mono (by omega)) (Ev.nz p117.out ec.out)).mono ?_; rintro e w118 ⟨v118, rfl, n118, hb118⟩; have B18 := chain2 B17 hb118; obtain ⟨N118, D118, p118, n118⟩ := evr (Ev.mul p117.out ec.out) n118)
        | (have gk := B16; go_at_call 29; refine (qmul_any _ _ _ _ _ _ _ 40 (by omega) ((Ra.below B16).mono (by omega)) ((Rb.below B16).mono (by omega)) (Ev.nz ea.out eb.out)).mono ?_; rintro e w117 ⟨v117, rfl, n117, hb117⟩; have B17 := chain2 B16 hb117; obtain ⟨N117, D117, p117, n117⟩ := evr (Ev.mul ea.out eb.out) n117)
        | (have gk := B15; go_at_call 23; refine (qtext_any _ _ _ _ _ (by omega) n115 (T7.below B15)).mono ?_; rintro e w116 ⟨⟨s116, rfl, h116⟩, hb116⟩; have B16 := chain2 B15 hb116; rw [Ev.text p115.out p112.out (id_sum n1 m1 n2 m2 n3 m3) h116 h113])
        | (have gk := B14; go_at_call 9; refine (qadd_any _ _ _ _ _ _ _ 92 (by omega) (n114.mono (by omega)) ((Rb.below B14).mono (by omega)) (Ev.nz p114.out eb.out)).mono ?_; rintro e w115 ⟨v115, rfl, n115, hb115⟩; have B15 := chain2 B14 hb115; obtain ⟨N115, D115, p115, n115⟩ := evr (Ev.add p114.out eb.out) n115)
        | (have gk := B13; go_at_call 9; refine (qadd_any _ _ _ _ _ _ _ 40 (by omega) ((Rc.below B13).mono (by omega)) ((Ra.below B13).mono (by omega)) (Ev.nz ec.out ea.out)).mono ?_; rintro e w114 ⟨v114, rfl, n114, hb114⟩; have B14 := chain2 B13 hb114; obtain ⟨N114, D114, p114, n114⟩ := evr (Ev.add ec.out ea.out) n114)
        | (have gk := B12; go_at_call 23; refine (qtext_any _ _ _ _ _ (by omega) n112 (T7.below B12)).mono ?_; rintro e w113 ⟨⟨s113, rfl, h113⟩, hb113⟩; have B13 := chain2 B12 hb113)
        | (have gk := B11; go_at_call 9; refine (qadd_any _ _ _ _ _ _ _ 92 (by omega) (n111.mono (by omega)) ((Rc.below B11).mono (by omega)) (Ev.nz p111.out ec.out)).mono ?_; rintro e w112 ⟨v112, rfl, n112, hb112⟩; have B12 := chain2 B11 hb112; obtain ⟨N112, D112, p112, n112⟩ := evr (Ev.add p111.out ec.out) n112)
        | (have gk := B10; go_at_call 9; refine (qadd_any _ _ _ _ _ _ _ 40 (by omega) ((Ra.below B10).mono (by omega)) ((Rb.below B10).mono (by omega)) (Ev.nz ea.out eb.out)).mono ?_; rintro e w111 ⟨v111, rfl, n111, hb111⟩; have B11 := chain2 B10 hb111; obtain ⟨N111, D111, p111, n111⟩ := evr (Ev.add ea.out eb.out) n111)
        | (have gk := B9; go_at_call 23; refine (qtext_any _ _ _ _ _ (by omega) n109 (T7.below B9)).mono ?_; rintro e w110 ⟨⟨s110, rfl, h110⟩, hb110⟩; have B10 := chain2 B9 hb110; rw [Ev.text p109.out p105.out (id_dist n1 m1 n2 m2 n3 m3) h110 h106])
        | (have gk := B8; go_at_call 9; refine (qadd_any _ _ _ _ _ _ _ 92 (by omega) ((n107.below hb108).mono (by omega)) (n108.mono (by omega)) (Ev.nz p107.out p108.out)).mono ?_; rintro e w109 ⟨v109, rfl, n109, hb109⟩; have B9 := chain2 B8 hb109; obtain ⟨N109, D109, p109, n109⟩ := evr (Ev.add p107.out p108.out) n109)
        | (have gk := B7; go_at_call 29; refine (qmul_any _ _ _ _ _ _ _ 40 (by omega) ((Ra.below B7).mono (by omega)) ((Rc.below B7).mono (by omega)) (Ev.nz ea.out ec.out)).mono ?_; rintro e w108 ⟨v108, rfl, n108, hb108⟩; have B8 := chain2 B7 hb108; obtain ⟨N108, D108, p108, n108⟩ := evr (Ev.mul ea.out ec.out) n108)
        | (have gk := B6; go_at_call 29; refine (qmul_any _ _ _ _ _ _ _ 40 (by omega) ((Ra.below B6).mono (by omega)) ((Rb.below B6).mono (by omega)) (Ev.nz ea.out eb.out)).mono ?_; rintro e w107 ⟨v107, rfl, n107, hb107⟩; have B7 := chain2 B6 hb107; obtain ⟨N107, D107, p107, n107⟩ := evr (Ev.mul ea.out eb.out) n107)
        | (have gk := B5; go_at_call 23; refine (qtext_any _ _ _ _ _ (by omega) n105 (T7.below B5)).mono ?_; rintro e w106 ⟨⟨s106, rfl, h106⟩, hb106⟩; have B6 := chain2 B5 hb106)
        | (have gk := B4; go_at_call 29; refine (qmul_any _ _ _ _ _ _ _ 92 (by omega) ((Ra.below B4).mono (by omega)) (n104.mono (by omega)) (Ev.nz ea.out p104.out)).mono ?_; rintro e w105 ⟨v105, rfl, n105, hb105⟩; have B5 := chain2 B4 hb105; obtain ⟨N105, D105, p105, n105⟩ := evr (Ev.mul ea.out p104.out) n105)
        | (have gk := B3; go_at_call 9; refine (qadd_any _ _ _ _ _ _ _ 40 (by omega) ((Rb.below B3).mono (by omega)) ((Rc.below B3).mono (by omega)) (Ev.nz eb.out ec.out)).mono ?_; rintro e w104 ⟨v104, rfl, n104, hb104⟩; have B4 := chain2 B3 hb104; obtain ⟨N104, D104, p104, n104⟩ := evr (Ev.add eb.out ec.out) n104)
        | (have gk := B2; go_at_call 23; refine (qtext_any _ _ _ _ _ (by omega) n102 (T7.below B2)).mono ?_; rintro e w103 ⟨⟨s103, rfl, h103⟩, hb103⟩; have B3 := chain2 B2 hb103; rw [Ev.text p102.out ea.out (id_back n1 m1 n2 m2) h103 HS.out])
        | (have gk := B1; go_at_call 30; refine (qsub_any _ _ _ _ _ _ _ 92 (by omega) (n101.mono (by omega)) ((Rb.below B1).mono (by omega)) (Ev.nz p101.out eb.out)).mono ?_; rintro e w102 ⟨v102, rfl, n102, hb102⟩; have B2 := chain2 B1 hb102; obtain ⟨N102, D102, p102, n102⟩ := evr (Ev.sub p101.out eb.out) n102)
        | (have gk := B0; go_at_call 9; refine (qadd_any _ _ _ _ _ _ _ 40 (by omega) ((Ra.below B0).mono (by omega)) ((Rb.below B0).mono (by omega)) (Ev.nz ea.out eb.out)).mono ?_; rintro e w101 ⟨v101, rfl, n101, hb101⟩; have B1 := chain2 B0 hb101; obtain ⟨N101, D101, p101, n101⟩ := evr (Ev.add ea.out eb.out) n101))
    all_goals
      have g9 := chain2 C7 B27
      clear B0 B1 B2 B3 B4 B5 B6 B7 B8 B9 B10 B11 B12 B13 B14 B15 B16 B17 B18 B19 B20 B21 B22 B23 B24 B25 B26 B27 hb101 hb102 hb103 hb104 hb105 hb106 hb107 hb108 hb109 hb110 hb111 hb112 hb113 hb114 hb115 hb116 hb117 hb118 hb119 hb120 hb121 hb122 hb123 hb124 hb125 hb126 hb127
      go_wp2
      go_ret
      exact ⟨rfl, g9⟩
end Go.Proofs.YtnmfffgcepobpaaGreatDoor
