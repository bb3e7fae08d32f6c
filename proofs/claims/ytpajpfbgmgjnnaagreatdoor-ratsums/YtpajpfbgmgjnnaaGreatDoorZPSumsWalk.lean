/- RatSums: the law's walk. -/
import Derived.Test.YtpajpfbgmgjnnaaGreatDoorZPJoin
import Derived.Test.YtpajpfbgmgjnnaaGreatDoorZPTOps
namespace Go.Proofs.YtpajpfbgmgjnnaaGreatDoor
open Go.RowKit
set_option linter.unusedVariables false
set_option maxRecDepth 100000
set_option linter.unusedSimpArgs false
attribute [local go_sem ↓] Go.wp_at_zero Go.wp_at_succ

theorem keep24 {W X : World} {p0 p1 p2 p3 p4 p5 p6 p7 p8 p9 p10 p11 p12 p13 p14 p15 p16 p17 p18 p19 p20 p21 p22 p23 : Addr} {x0 x1 x2 x3 x4 x5 x6 x7 x8 x9 x10 x11 x12 x13 x14 x15 x16 x17 x18 x19 x20 x21 x22 x23 : Value} (h0 : W.cell? p0 = some x0) (h1 : W.cell? p1 = some x1) (h2 : W.cell? p2 = some x2) (h3 : W.cell? p3 = some x3) (h4 : W.cell? p4 = some x4) (h5 : W.cell? p5 = some x5) (h6 : W.cell? p6 = some x6) (h7 : W.cell? p7 = some x7) (h8 : W.cell? p8 = some x8) (h9 : W.cell? p9 = some x9) (h10 : W.cell? p10 = some x10) (h11 : W.cell? p11 = some x11) (h12 : W.cell? p12 = some x12) (h13 : W.cell? p13 = some x13) (h14 : W.cell? p14 = some x14) (h15 : W.cell? p15 = some x15) (h16 : W.cell? p16 = some x16) (h17 : W.cell? p17 = some x17) (h18 : W.cell? p18 = some x18) (h19 : W.cell? p19 = some x19) (h20 : W.cell? p20 = some x20) (h21 : W.cell? p21 = some x21) (h22 : W.cell? p22 = some x22) (h23 : W.cell? p23 = some x23) (h : Below W.heap.size W X) : X.cell? p0 = some x0 ∧ X.cell? p1 = some x1 ∧ X.cell? p2 = some x2 ∧ X.cell? p3 = some x3 ∧ X.cell? p4 = some x4 ∧ X.cell? p5 = some x5 ∧ X.cell? p6 = some x6 ∧ X.cell? p7 = some x7 ∧ X.cell? p8 = some x8 ∧ X.cell? p9 = some x9 ∧ X.cell? p10 = some x10 ∧ X.cell? p11 = some x11 ∧ X.cell? p12 = some x12 ∧ X.cell? p13 = some x13 ∧ X.cell? p14 = some x14 ∧ X.cell? p15 = some x15 ∧ X.cell? p16 = some x16 ∧ X.cell? p17 = some x17 ∧ X.cell? p18 = some x18 ∧ X.cell? p19 = some x19 ∧ X.cell? p20 = some x20 ∧ X.cell? p21 = some x21 ∧ X.cell? p22 = some x22 ∧ X.cell? p23 = some x23 := ⟨kc h h0, kc h h1, kc h h2, kc h h3, kc h h4, kc h h5, kc h h6, kc h h7, kc h h8, kc h h9, kc h h10, kc h h11, kc h h12, kc h h13, kc h h14, kc h h15, kc h h16, kc h h17, kc h h18, kc h h19, kc h h20, kc h h21, kc h h22, kc h h23⟩
theorem low_text {s t : ByteArray} {x y : Int} (h0 : y ≠ 0) (k : QTx t (mkN x y) (mkD x y)) (h : QTx s (lowN x y) (lowD x y)) : t = s := by
  rw [mkN, if_neg h0, mkD, if_neg h0] at k
  exact k.inj h
theorem sub_text {s t : ByteArray} {a b c y : Int} (h0 : y ≠ 0) (k : QTx t (mkN (a + -b * c) y) (mkD (a + -b * c) y)) (h : QTx s (lowN (a - b * c) y) (lowD (a - b * c) y)) : t = s := by
  rw [Int.neg_mul, ← Int.sub_eq_add_neg] at k
  exact low_text h0 k h
set_option maxHeartbeats 20000000 in
theorem qsums_any (x y : ByteArray) (w : World) (hm : Mx w) (htab : Tab w) :
    Calls Tryz.prog 7 #[.string x, .string y] w fun e w' => e = .returned (.bool true) ∧ Below w.heap.size w w' := by
  have C0 : Below w.heap.size w (w.alloc (Obj.cells #[.string x, .string y] 9)) := (Below.refl _ _).alloc (Nat.le_refl _) _
  go_enter Tryz.func7, Tryz.ntmps7
  go_wp2_with fail
  refine (long3_any _ w.heap.size 2 [x, y] (by omega) ?_).mono ?_
  · intro k hk
    match k, hk with
    | 0, _ => simp [go_sem, sg]
    | 1, _ => simp [go_sem, sg]
  rintro e w1 ⟨h | ⟨h, hsz⟩, rfl⟩
  · rw [h]
    go_wp2
    go_ret
    exact ⟨rfl, C0⟩
  rw [h]
  have hx := hsz 0 (by omega)
  have hy := hsz 1 (by omega)
  simp only [sg, List.getD_cons_zero, List.getD_cons_succ] at hx hy
  clear hsz h
  generalize w.alloc (Obj.cells #[.string x, .string y] 9) = w1 at *
  go_wp2_with fail
  refine (number3_any x _ (by omega) (hm.below C0) (htab.below C0)).mono ?_
  rintro e u1 ⟨⟨a1, l1, c1, d1, a2, l2, c2, d2, a3, l3, c3, d3, a4, l4, c4, d4, bb1, rfl, F1⟩, e1⟩
  have x1 := boxed2_first u1 (Obj.cells #[Value.slice a1 l1 c1, Value.bool d1, Value.slice a2 l2 c2, Value.bool d2] 30) (Obj.cells #[Value.bool d3, Value.slice a3 l3 c3, Value.bool d4, Value.slice a4 l4 c4] 37)
  have y1 := boxed2_second u1 (Obj.cells #[Value.slice a1 l1 c1, Value.bool d1, Value.slice a2 l2 c2, Value.bool d2] 30) (Obj.cells #[Value.bool d3, Value.slice a3 l3 c3, Value.bool d4, Value.slice a4 l4 c4] 37)
  have H1 := boxed2 (Below.refl u1.heap.size u1) (Obj.cells #[Value.slice a1 l1 c1, Value.bool d1, Value.slice a2 l2 c2, Value.bool d2] 30) (Obj.cells #[Value.bool d3, Value.slice a3 l3 c3, Value.bool d4, Value.slice a4 l4 c4] 37)
  have X1 := chain2 e1 H1
  have C1 := chain2 C0 X1
  have F1 := fun h => (show ∃ n d, Can x n d ∧ RatIs _ (.agg #[Value.slice a1 l1 c1, Value.bool d1, Value.slice a2 l2 c2, Value.bool d2]) n d 40 ∧ TRatIs _ (.agg #[Value.bool d3, Value.slice a3 l3 c3, Value.bool d4, Value.slice a4 l4 c4]) n d 40 from by
    obtain ⟨n, d, g1, g2, g3⟩ := F1 h
    exact ⟨n, d, g1, (g2.below H1).mono (by omega), (g3.below H1).mono (by omega)⟩)
  clear e1 H1
  go_wp2_with fail
  generalize (u1.alloc (Obj.cells #[Value.slice a1 l1 c1, Value.bool d1, Value.slice a2 l2 c2, Value.bool d2] 30)).alloc (Obj.cells #[Value.bool d3, Value.slice a3 l3 c3, Value.bool d4, Value.slice a4 l4 c4] 37) = W1 at *
  generalize u1.heap.size = k1 at *
  refine (number3_any y _ (by omega) (hm.below C1) (htab.below C1)).mono ?_
  rintro e u2 ⟨⟨a5, l5, c5, d5, a6, l6, c6, d6, a7, l7, c7, d7, a8, l8, c8, d8, bb2, rfl, F2⟩, e2⟩
  have x2 := boxed2_first u2 (Obj.cells #[Value.slice a5 l5 c5, Value.bool d5, Value.slice a6 l6 c6, Value.bool d6] 30) (Obj.cells #[Value.bool d7, Value.slice a7 l7 c7, Value.bool d8, Value.slice a8 l8 c8] 37)
  have y2 := boxed2_second u2 (Obj.cells #[Value.slice a5 l5 c5, Value.bool d5, Value.slice a6 l6 c6, Value.bool d6] 30) (Obj.cells #[Value.bool d7, Value.slice a7 l7 c7, Value.bool d8, Value.slice a8 l8 c8] 37)
  have H2 := boxed2 (Below.refl u2.heap.size u2) (Obj.cells #[Value.slice a5 l5 c5, Value.bool d5, Value.slice a6 l6 c6, Value.bool d6] 30) (Obj.cells #[Value.bool d7, Value.slice a7 l7 c7, Value.bool d8, Value.slice a8 l8 c8] 37)
  have X2 := chain2 e2 H2
  have C2 := chain2 C1 X2
  have F2 := fun h => (show ∃ n d, Can y n d ∧ RatIs _ (.agg #[Value.slice a5 l5 c5, Value.bool d5, Value.slice a6 l6 c6, Value.bool d6]) n d 40 ∧ TRatIs _ (.agg #[Value.bool d7, Value.slice a7 l7 c7, Value.bool d8, Value.slice a8 l8 c8]) n d 40 from by
    obtain ⟨n, d, g1, g2, g3⟩ := F2 h
    exact ⟨n, d, g1, (g2.below H2).mono (by omega), (g3.below H2).mono (by omega)⟩)
  clear e2 H2
  have x1 := box_below X2 x1 (lt_of_block x1)
  have y1 := box_below X2 y1 (lt_of_block y1)
  have F1 := fun h => (show ∃ n d, Can x n d ∧ RatIs _ (.agg #[Value.slice a1 l1 c1, Value.bool d1, Value.slice a2 l2 c2, Value.bool d2]) n d 40 ∧ TRatIs _ (.agg #[Value.bool d3, Value.slice a3 l3 c3, Value.bool d4, Value.slice a4 l4 c4]) n d 40 from by
    obtain ⟨n, d, g1, g2, g3⟩ := F1 h
    exact ⟨n, d, g1, g2.below X2, g3.below X2⟩)
  clear X1 X2 C1
  cases bb1
  · clear F1 F2
    go_wp2
    go_ret
    exact ⟨rfl, C2⟩
  cases bb2
  · clear F1 F2
    go_wp2
    go_ret
    exact ⟨rfl, C2⟩
  obtain ⟨n1, m1, K1, Ra, Rr⟩ := F1 rfl
  obtain ⟨n2, m2, K2, Rb, Rs⟩ := F2 rfl
  clear F1 F2
  have hd0 : m1 * m2 ≠ 0 := Int.mul_ne_zero (by have := K1.pos; omega) (by have := K2.pos; omega)
  have HD := hid (And.intro hd0 (show m2 ≠ 0 by have := K2.pos; omega))
  have HS := hid (And.intro K1.tx K2.tx)
  clear hd0 K1 K2
  obtain ⟨t0, t1, t2, t3⟩ := four_cell x1
  obtain ⟨t4, t5, t6, t7⟩ := four_cell y1
  obtain ⟨t8, t9, t10, t11⟩ := four_cell x2
  obtain ⟨t12, t13, t14, t15⟩ := four_cell y2
  go_wp2_with fail
  generalize (u2.alloc (Obj.cells #[Value.slice a5 l5 c5, Value.bool d5, Value.slice a6 l6 c6, Value.bool d6] 30)).alloc (Obj.cells #[Value.bool d7, Value.slice a7 l7 c7, Value.bool d8, Value.slice a8 l8 c8] 37) = W2 at *
  generalize u2.heap.size = k2 at *
  refine (qdiv_any _ _ _ n1 m1 n2 m2 40 (by omega) Ra Rb).mono ?_
  rintro e u3 ⟨⟨a9, l9, c9, d9, a10, l10, c10, d10, rfl, Rc⟩, e3⟩
  have X3 := below_alloc' e3 (Nat.le_refl _) (Obj.cells #[Value.slice a9 l9 c9, Value.bool d9, Value.slice a10 l10 c10, Value.bool d10] 30)
  have x1 := box_below X3 x1 (lt_of_block x1)
  have y1 := box_below X3 y1 (lt_of_block y1)
  have x2 := box_below X3 x2 (lt_of_block x2)
  have y2 := box_below X3 y2 (lt_of_block y2)
  have x3 := box_new u3 (Obj.cells #[Value.slice a9 l9 c9, Value.bool d9, Value.slice a10 l10 c10, Value.bool d10] 30)
  have Rc := Rc.below ((Below.refl u3.heap.size u3).alloc (Nat.le_refl _) (Obj.cells #[Value.slice a9 l9 c9, Value.bool d9, Value.slice a10 l10 c10, Value.bool d10] 30))
  have Ra := Ra.below X3
  have Rr := Rr.below X3
  have Rb := Rb.below X3
  have Rs := Rs.below X3
  have C3 := chain2 C2 X3
  clear e3 X3 C2 t0 t1 t2 t3 t4 t5 t6 t7 t8 t9 t10 t11 t12 t13 t14 t15
  obtain ⟨t0, t1, t2, t3⟩ := four_cell x1
  obtain ⟨t4, t5, t6, t7⟩ := four_cell y1
  obtain ⟨t8, t9, t10, t11⟩ := four_cell x2
  obtain ⟨t12, t13, t14, t15⟩ := four_cell y2
  generalize hE : mkE (m1 * n2) = E at *
  have HE := hid hE
  clear hE
  go_wp2_with fail
  generalize u3.alloc (Obj.cells #[Value.slice a9 l9 c9, Value.bool d9, Value.slice a10 l10 c10, Value.bool d10] 30) = W3 at *
  generalize u3.heap.size = k3 at *
  refine (tdiv_any _ _ _ n1 m1 n2 m2 40 (by omega) Rr Rs).mono ?_
  rintro e u4 ⟨⟨a11, l11, c11, d11, a12, l12, c12, d12, rfl, Rt⟩, e4⟩
  rw [HE.out]
  have X4 := below_alloc' e4 (Nat.le_refl _) (Obj.cells #[Value.bool d11, Value.slice a11 l11 c11, Value.bool d12, Value.slice a12 l12 c12] 37)
  have x1 := box_below X4 x1 (lt_of_block x1)
  have y1 := box_below X4 y1 (lt_of_block y1)
  have x2 := box_below X4 x2 (lt_of_block x2)
  have y2 := box_below X4 y2 (lt_of_block y2)
  have x3 := box_below X4 x3 (lt_of_block x3)
  have x4 := box_new u4 (Obj.cells #[Value.bool d11, Value.slice a11 l11 c11, Value.bool d12, Value.slice a12 l12 c12] 37)
  have Rt := Rt.below ((Below.refl u4.heap.size u4).alloc (Nat.le_refl _) (Obj.cells #[Value.bool d11, Value.slice a11 l11 c11, Value.bool d12, Value.slice a12 l12 c12] 37))
  have Ra := Ra.below X4
  have Rr := Rr.below X4
  have Rb := Rb.below X4
  have Rs := Rs.below X4
  have Rc := Rc.below X4
  have C4 := chain2 C3 X4
  have T4 := htab.below C4
  clear e4 X4 C3 t0 t1 t2 t3 t4 t5 t6 t7 t8 t9 t10 t11 t12 t13 t14 t15 HE
  obtain ⟨t0, t1, t2, t3⟩ := four_cell x1
  obtain ⟨t4, t5, t6, t7⟩ := four_cell y1
  obtain ⟨t8, t9, t10, t11⟩ := four_cell x2
  obtain ⟨t12, t13, t14, t15⟩ := four_cell y2
  obtain ⟨t16, t17, t18, t19⟩ := four_cell x3
  obtain ⟨t20, t21, t22, t23⟩ := four_cell x4
  clear x1 y1 x2 y2 x3 x4
  generalize hP : mkN (n1 * m2) (m1 * n2) = P at *
  generalize hQ : mkD (n1 * m2) (m1 * n2) = Q at *
  clear hP hQ
  go_wp2
  generalize u4.alloc (Obj.cells #[Value.bool d11, Value.slice a11 l11 c11, Value.bool d12, Value.slice a12 l12 c12] 37) = X0 at *
  generalize u4.heap.size = k4 at *
  have B0 : Below X0.heap.size X0 X0.drew := (Below.refl _ _).drew
  try simp only [List.append_eq, List.cons_append, List.nil_append]
  go_region_held3 (fun w' => w'.cell? ⟨k1, 0, none⟩ = some (Value.slice a1 l1 c1) ∧ w'.cell? ⟨k1, 1, none⟩ = some (Value.bool d1) ∧ w'.cell? ⟨k1, 2, none⟩ = some (Value.slice a2 l2 c2) ∧ w'.cell? ⟨k1, 3, none⟩ = some (Value.bool d2) ∧ w'.cell? ⟨k1 + 1, 0, none⟩ = some (Value.bool d3) ∧ w'.cell? ⟨k1 + 1, 1, none⟩ = some (Value.slice a3 l3 c3) ∧ w'.cell? ⟨k1 + 1, 2, none⟩ = some (Value.bool d4) ∧ w'.cell? ⟨k1 + 1, 3, none⟩ = some (Value.slice a4 l4 c4) ∧ w'.cell? ⟨k2, 0, none⟩ = some (Value.slice a5 l5 c5) ∧ w'.cell? ⟨k2, 1, none⟩ = some (Value.bool d5) ∧ w'.cell? ⟨k2, 2, none⟩ = some (Value.slice a6 l6 c6) ∧ w'.cell? ⟨k2, 3, none⟩ = some (Value.bool d6) ∧ w'.cell? ⟨k2 + 1, 0, none⟩ = some (Value.bool d7) ∧ w'.cell? ⟨k2 + 1, 1, none⟩ = some (Value.slice a7 l7 c7) ∧ w'.cell? ⟨k2 + 1, 2, none⟩ = some (Value.bool d8) ∧ w'.cell? ⟨k2 + 1, 3, none⟩ = some (Value.slice a8 l8 c8) ∧ w'.cell? ⟨k3, 0, none⟩ = some (Value.slice a9 l9 c9) ∧ w'.cell? ⟨k3, 1, none⟩ = some (Value.bool d9) ∧ w'.cell? ⟨k3, 2, none⟩ = some (Value.slice a10 l10 c10) ∧ w'.cell? ⟨k3, 3, none⟩ = some (Value.bool d10) ∧ w'.cell? ⟨k4, 0, none⟩ = some (Value.bool d11) ∧ w'.cell? ⟨k4, 1, none⟩ = some (Value.slice a11 l11 c11) ∧ w'.cell? ⟨k4, 2, none⟩ = some (Value.bool d12) ∧ w'.cell? ⟨k4, 3, none⟩ = some (Value.slice a12 l12 c12)) ((refine keep24 t0 t1 t2 t3 t4 t5 t6 t7 t8 t9 t10 t11 t12 t13 t14 t15 t16 t17 t18 t19 t20 t21 t22 t23 ?_; first | exact B0 | exact B1 | exact B2 | exact B3 | exact B4 | exact B5 | exact B6 | exact B7 | exact B8 | exact B9 | exact B10 | exact B11 | exact B12 | exact B13 | exact B14 | exact B15 | exact B16 | exact B17 | exact B18)) (first
    | (have gk := B17; go_at_call 26; refine (qtext_any _ _ _ _ _ (by omega) (Rb.below B17) (T4.below B17)).mono ?_; rintro e w118 ⟨⟨s118, rfl, h118⟩, hb118⟩; have B18 := chain2 B17 hb118; rw [h118.inj HS.out.2])
    | (have gk := B16; go_at_call 26; refine (qtext_any _ _ _ _ _ (by omega) (Ra.below B16) (T4.below B16)).mono ?_; rintro e w117 ⟨⟨s117, rfl, h117⟩, hb117⟩; have B17 := chain2 B16 hb117; rw [h117.inj HS.out.1])
    | (have gk := B15; go_at_call 43; refine (tcmp_any _ _ _ n1 m1 n2 m2 40 (by omega) (Rr.below B15) (Rs.below B15)).mono ?_; rintro e w116 ⟨rfl, hb116⟩; have B16 := chain2 B15 hb116)
    | (have gk := B14; go_at_call 13; refine (qcmp_any _ _ _ n1 m1 n2 m2 40 (by omega) (Ra.below B14) (Rb.below B14)).mono ?_; rintro e w115 ⟨rfl, hb115⟩; have B15 := chain2 B14 hb115)
    | (have gk := B13; go_at_call 30; refine (ttext_any _ _ _ _ _ (by omega) (Rt.below B13)).mono ?_; rintro e w114 ⟨⟨s114, rfl, h114⟩, hb114⟩; have B14 := chain2 B13 hb114; rw [h114.inj h113])
    | (have gk := B12; go_at_call 26; refine (qtext_any _ _ _ _ _ (by omega) (Rc.below B12) (T4.below B12)).mono ?_; rintro e w113 ⟨⟨s113, rfl, h113⟩, hb113⟩; have B13 := chain2 B12 hb113)
    | (have gk := B11; go_at_call 30; refine (ttext_any _ _ _ _ _ (by omega) n111).mono ?_; rintro e w112 ⟨⟨s112, rfl, h112⟩, hb112⟩; have B12 := chain2 B11 hb112; rw [low_text HD.out.1 h112 h110])
    | (have gk := B10; go_at_call 42; refine (tmul_any _ _ _ n1 m1 n2 m2 40 (by omega) (Rr.below B10) (Rs.below B10)).mono ?_; rintro e w111 ⟨v111, rfl, n111, hb111⟩; have B11 := chain2 B10 hb111)
    | (have gk := B9; go_at_call 26; refine (qtext_any _ _ _ _ _ (by omega) n109 (T4.below B9)).mono ?_; rintro e w110 ⟨⟨s110, rfl, h110⟩, hb110⟩; have B10 := chain2 B9 hb110)
    | (have gk := B8; go_at_call 41; refine (qmul_any _ _ _ n1 m1 n2 m2 40 (by omega) (Ra.below B8) (Rb.below B8) HD.out.1).mono ?_; rintro e w109 ⟨v109, rfl, n109, hb109⟩; have B9 := chain2 B8 hb109)
    | (have gk := B7; go_at_call 30; refine (ttext_any _ _ _ _ _ (by omega) n107).mono ?_; rintro e w108 ⟨⟨s108, rfl, h108⟩, hb108⟩; have B8 := chain2 B7 hb108; rw [sub_text HD.out.1 h108 h106])
    | (have gk := B6; go_at_call 40; refine (tsub_any _ _ _ n1 m1 n2 m2 40 (by omega) (Rr.below B6) (Rs.below B6) (by omega) HD.out.2).mono ?_; rintro e w107 ⟨v107, rfl, n107, hb107⟩; have B7 := chain2 B6 hb107)
    | (have gk := B5; go_at_call 26; refine (qtext_any _ _ _ _ _ (by omega) n105 (T4.below B5)).mono ?_; rintro e w106 ⟨⟨s106, rfl, h106⟩, hb106⟩; have B6 := chain2 B5 hb106)
    | (have gk := B4; go_at_call 39; refine (qsub_any _ _ _ n1 m1 n2 m2 40 (by omega) (Ra.below B4) (Rb.below B4) HD.out.1).mono ?_; rintro e w105 ⟨v105, rfl, n105, hb105⟩; have B5 := chain2 B4 hb105)
    | (have gk := B3; go_at_call 30; refine (ttext_any _ _ _ _ _ (by omega) n103).mono ?_; rintro e w104 ⟨⟨s104, rfl, h104⟩, hb104⟩; have B4 := chain2 B3 hb104; rw [low_text HD.out.1 h104 h102])
    | (have gk := B2; go_at_call 38; refine (tadd_any _ _ _ n1 m1 n2 m2 40 (by omega) (Rr.below B2) (Rs.below B2)).mono ?_; rintro e w103 ⟨v103, rfl, n103, hb103⟩; have B3 := chain2 B2 hb103)
    | (have gk := B1; go_at_call 26; refine (qtext_any _ _ _ _ _ (by omega) n101 (T4.below B1)).mono ?_; rintro e w102 ⟨⟨s102, rfl, h102⟩, hb102⟩; have B2 := chain2 B1 hb102)
    | (have gk := B0; go_at_call 10; refine (qadd_any _ _ _ n1 m1 n2 m2 40 (by omega) (Ra.below B0) (Rb.below B0) HD.out.1).mono ?_; rintro e w101 ⟨v101, rfl, n101, hb101⟩; have B1 := chain2 B0 hb101))
  all_goals
    have g9 := chain2 C4 B18
    clear B0 B1 B2 B3 B4 B5 B6 B7 B8 B9 B10 B11 B12 B13 B14 B15 B16 B17 B18 hb101 hb102 hb103 hb104 hb105 hb106 hb107 hb108 hb109 hb110 hb111 hb112 hb113 hb114 hb115 hb116 hb117 hb118
    go_wp2
    go_ret
    exact ⟨rfl, g9⟩
end Go.Proofs.YtpajpfbgmgjnnaaGreatDoor
