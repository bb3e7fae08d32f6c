/- RatOrder: the law's walk. -/
import Derived.Test.YtpajpfbgmgjnnaaGreatDoorZPJoin
import Derived.Test.YtpajpfbgmgjnnaaGreatDoorZPOrdMath
namespace Go.Proofs.YtpajpfbgmgjnnaaGreatDoor
open Go.RowKit
set_option linter.unusedVariables false
set_option maxRecDepth 100000
set_option linter.unusedSimpArgs false
attribute [local go_sem ↓] Go.wp_at_zero Go.wp_at_succ

theorem keep12 {W X : World} {p0 p1 p2 p3 p4 p5 p6 p7 p8 p9 p10 p11 : Addr} {x0 x1 x2 x3 x4 x5 x6 x7 x8 x9 x10 x11 : Value} (h0 : W.cell? p0 = some x0) (h1 : W.cell? p1 = some x1) (h2 : W.cell? p2 = some x2) (h3 : W.cell? p3 = some x3) (h4 : W.cell? p4 = some x4) (h5 : W.cell? p5 = some x5) (h6 : W.cell? p6 = some x6) (h7 : W.cell? p7 = some x7) (h8 : W.cell? p8 = some x8) (h9 : W.cell? p9 = some x9) (h10 : W.cell? p10 = some x10) (h11 : W.cell? p11 = some x11) (h : Below W.heap.size W X) : X.cell? p0 = some x0 ∧ X.cell? p1 = some x1 ∧ X.cell? p2 = some x2 ∧ X.cell? p3 = some x3 ∧ X.cell? p4 = some x4 ∧ X.cell? p5 = some x5 ∧ X.cell? p6 = some x6 ∧ X.cell? p7 = some x7 ∧ X.cell? p8 = some x8 ∧ X.cell? p9 = some x9 ∧ X.cell? p10 = some x10 ∧ X.cell? p11 = some x11 := ⟨kc h h0, kc h h1, kc h h2, kc h h3, kc h h4, kc h h5, kc h h6, kc h h7, kc h h8, kc h h9, kc h h10, kc h h11⟩
set_option maxHeartbeats 20000000 in
theorem qorder_any (x y : ByteArray) (w : World) (hm : Mx w) (htab : Tab w) :
    Calls Tryz.prog 3 #[.string x, .string y] w fun e w' => e = .returned (.bool true) ∧ Below w.heap.size w w' := by
  have C0 : Below w.heap.size w (w.alloc (Obj.cells #[.string x, .string y] 9)) := (Below.refl _ _).alloc (Nat.le_refl _) _
  go_enter Tryz.func3, Tryz.ntmps3
  go_wp2_with fail
  refine (long3_any _ w.heap.size 2 [x, y] (by omega) ?_).mono ?_
  · intro k hk
    match k, hk with
    | 0, _ => simp [go_sem, sg]
    | 1, _ => simp [go_sem, sg]
  rintro e w1 ⟨h | ⟨h, hsz⟩, rfl⟩
  · rw [h]
    go_wp2
    go_ret
    exact ⟨rfl, C0⟩
  rw [h]
  have hx := hsz 0 (by omega)
  have hy := hsz 1 (by omega)
  simp only [sg, List.getD_cons_zero, List.getD_cons_succ] at hx hy
  clear hsz h
  generalize w.alloc (Obj.cells #[.string x, .string y] 9) = w1 at *
  go_wp2_with fail
  refine (number3_any x _ (by omega) (hm.below C0) (htab.below C0)).mono ?_
  rintro e u1 ⟨⟨a1, l1, c1, d1, a2, l2, c2, d2, a3, l3, c3, d3, a4, l4, c4, d4, bb1, rfl, F1⟩, e1⟩
  have x1 := boxed2_first u1 (Obj.cells #[Value.slice a1 l1 c1, Value.bool d1, Value.slice a2 l2 c2, Value.bool d2] 30) (Obj.cells #[Value.bool d3, Value.slice a3 l3 c3, Value.bool d4, Value.slice a4 l4 c4] 37)
  have y1 := boxed2_second u1 (Obj.cells #[Value.slice a1 l1 c1, Value.bool d1, Value.slice a2 l2 c2, Value.bool d2] 30) (Obj.cells #[Value.bool d3, Value.slice a3 l3 c3, Value.bool d4, Value.slice a4 l4 c4] 37)
  have H1 := boxed2 (Below.refl u1.heap.size u1) (Obj.cells #[Value.slice a1 l1 c1, Value.bool d1, Value.slice a2 l2 c2, Value.bool d2] 30) (Obj.cells #[Value.bool d3, Value.slice a3 l3 c3, Value.bool d4, Value.slice a4 l4 c4] 37)
  have X1 := chain2 e1 H1
  have C1 := chain2 C0 X1
  have F1 := fun h => (show ∃ n d, Can x n d ∧ RatIs _ (.agg #[Value.slice a1 l1 c1, Value.bool d1, Value.slice a2 l2 c2, Value.bool d2]) n d 40 ∧ TRatIs _ (.agg #[Value.bool d3, Value.slice a3 l3 c3, Value.bool d4, Value.slice a4 l4 c4]) n d 40 from by
    obtain ⟨n, d, g1, g2, g3⟩ := F1 h
    exact ⟨n, d, g1, (g2.below H1).mono (by omega), (g3.below H1).mono (by omega)⟩)
  clear e1 H1
  go_wp2_with fail
  generalize (u1.alloc (Obj.cells #[Value.slice a1 l1 c1, Value.bool d1, Value.slice a2 l2 c2, Value.bool d2] 30)).alloc (Obj.cells #[Value.bool d3, Value.slice a3 l3 c3, Value.bool d4, Value.slice a4 l4 c4] 37) = W1 at *
  generalize u1.heap.size = k1 at *
  refine (number3_any y _ (by omega) (hm.below C1) (htab.below C1)).mono ?_
  rintro e u2 ⟨⟨a5, l5, c5, d5, a6, l6, c6, d6, a7, l7, c7, d7, a8, l8, c8, d8, bb2, rfl, F2⟩, e2⟩
  have x2 := boxed2_first u2 (Obj.cells #[Value.slice a5 l5 c5, Value.bool d5, Value.slice a6 l6 c6, Value.bool d6] 30) (Obj.cells #[Value.bool d7, Value.slice a7 l7 c7, Value.bool d8, Value.slice a8 l8 c8] 37)
  have y2 := boxed2_second u2 (Obj.cells #[Value.slice a5 l5 c5, Value.bool d5, Value.slice a6 l6 c6, Value.bool d6] 30) (Obj.cells #[Value.bool d7, Value.slice a7 l7 c7, Value.bool d8, Value.slice a8 l8 c8] 37)
  have H2 := boxed2 (Below.refl u2.heap.size u2) (Obj.cells #[Value.slice a5 l5 c5, Value.bool d5, Value.slice a6 l6 c6, Value.bool d6] 30) (Obj.cells #[Value.bool d7, Value.slice a7 l7 c7, Value.bool d8, Value.slice a8 l8 c8] 37)
  have X2 := chain2 e2 H2
  have C2 := chain2 C1 X2
  have F2 := fun h => (show ∃ n d, Can y n d ∧ RatIs _ (.agg #[Value.slice a5 l5 c5, Value.bool d5, Value.slice a6 l6 c6, Value.bool d6]) n d 40 ∧ TRatIs _ (.agg #[Value.bool d7, Value.slice a7 l7 c7, Value.bool d8, Value.slice a8 l8 c8]) n d 40 from by
    obtain ⟨n, d, g1, g2, g3⟩ := F2 h
    exact ⟨n, d, g1, (g2.below H2).mono (by omega), (g3.below H2).mono (by omega)⟩)
  clear e2 H2
  have x1 := box_below X2 x1 (lt_of_block x1)
  have y1 := box_below X2 y1 (lt_of_block y1)
  have F1 := fun h => (show ∃ n d, Can x n d ∧ RatIs _ (.agg #[Value.slice a1 l1 c1, Value.bool d1, Value.slice a2 l2 c2, Value.bool d2]) n d 40 ∧ TRatIs _ (.agg #[Value.bool d3, Value.slice a3 l3 c3, Value.bool d4, Value.slice a4 l4 c4]) n d 40 from by
    obtain ⟨n, d, g1, g2, g3⟩ := F1 h
    exact ⟨n, d, g1, g2.below X2, g3.below X2⟩)
  clear X1 X2 C1
  cases bb1
  · clear F1 F2
    go_wp2
    go_ret
    exact ⟨rfl, C2⟩
  cases bb2
  · clear F1 F2
    go_wp2
    go_ret
    exact ⟨rfl, C2⟩
  obtain ⟨n1, m1, K1, Ra, Rr⟩ := F1 rfl
  obtain ⟨n2, m2, K2, Rb, Rs⟩ := F2 rfl
  clear F1 F2
  have p1 : 0 < m1 := by have := K1.pos; omega
  have p2 : 0 < m2 := by have := K2.pos; omega
  have hd0 : m1 * m2 ≠ 0 := Int.mul_ne_zero (by omega) (by omega)
  have HP := hid (And.intro p1 (And.intro p2 hd0))
  have HS := hid (can_same K1 K2)
  clear hd0 K1 K2 p1 p2 Rr Rs
  obtain ⟨t0, t1, t2, t3⟩ := four_cell x1
  obtain ⟨t4, t5, t6, t7⟩ := four_cell x2
  go_wp2_with fail
  generalize (u2.alloc (Obj.cells #[Value.slice a5 l5 c5, Value.bool d5, Value.slice a6 l6 c6, Value.bool d6] 30)).alloc (Obj.cells #[Value.bool d7, Value.slice a7 l7 c7, Value.bool d8, Value.slice a8 l8 c8] 37) = W2 at *
  generalize u2.heap.size = k2 at *
  refine (qadd_any _ _ _ n1 m1 n2 m2 40 (by omega) Ra Rb HP.out.2.2).mono ?_
  rintro e u3 ⟨v3, rfl, Rs, e3⟩
  go_wp2_with fail
  refine (qof_any _ 2 (by omega) (by omega)).mono ?_
  rintro e u4 ⟨v4, rfl, Rt, e4⟩
  have hT := low_pos (x := n1 * m2 + n2 * m1) HP.out.2.2
  have HL0 := hid (mid_left (n1 := n1) (n2 := n2) HP.out.1 HP.out.2.1)
  have HR0 := hid (mid_right (n1 := n1) (n2 := n2) HP.out.1 HP.out.2.1)
  generalize hS : lowN (n1 * m2 + n2 * m1) (m1 * m2) = S at *
  generalize hTT : lowD (n1 * m2 + n2 * m1) (m1 * m2) = T at *
  have HST := hid (And.intro hS hTT)
  clear hS hTT
  have HT0 := hid (mid_twice (S := S) (show 0 < T by omega))
  go_wp2_with fail
  refine (qdiv_any _ _ _ S T 2 1 (2 * 40 + 12) (by omega) (Rs.below e4) (Rt.mono (by omega))).mono ?_
  rintro e u5 ⟨⟨a9, l9, c9, d9, a10, l10, c10, d10, rfl, Rc⟩, e5⟩
  have hE : mkE (T * 2) = 0 := by unfold mkE; rw [if_neg (by omega)]
  rw [mkN, if_neg (show T * 2 ≠ 0 by omega), mkD, if_neg (show T * 2 ≠ 0 by omega)] at Rc
  rw [hE]
  have hQ := low_pos (x := S * 1) (show T * 2 ≠ 0 by omega)
  generalize lowN (S * 1) (T * 2) = M at *
  generalize lowD (S * 1) (T * 2) = Q at *
  have HQ := hid (show Q * Q ≠ 0 from Int.mul_ne_zero (by omega) (by omega))
  have e5 := chain2 (chain2 e3 e4) e5
  have X5 := below_alloc' e5 (Nat.le_refl _) (Obj.cells #[Value.slice a9 l9 c9, Value.bool d9, Value.slice a10 l10 c10, Value.bool d10] 30)
  have x1 := box_below X5 x1 (lt_of_block x1)
  have x2 := box_below X5 x2 (lt_of_block x2)
  have x3 := box_new u5 (Obj.cells #[Value.slice a9 l9 c9, Value.bool d9, Value.slice a10 l10 c10, Value.bool d10] 30)
  have Rc := Rc.below ((Below.refl u5.heap.size u5).alloc (Nat.le_refl _) (Obj.cells #[Value.slice a9 l9 c9, Value.bool d9, Value.slice a10 l10 c10, Value.bool d10] 30))
  have Ra := Ra.below X5
  have Rb := Rb.below X5
  have C5 := chain2 C2 X5
  clear e3 e4 e5 X5 C2 t0 t1 t2 t3 t4 t5 t6 t7 hE hQ hT Rs Rt
  obtain ⟨t0, t1, t2, t3⟩ := four_cell x1
  obtain ⟨t4, t5, t6, t7⟩ := four_cell x2
  go_wp2_with fail
  generalize u5.alloc (Obj.cells #[Value.slice a9 l9 c9, Value.bool d9, Value.slice a10 l10 c10, Value.bool d10] 30) = W5 at *
  generalize u5.heap.size = k5 at *
  refine (qcmp_any _ _ _ n1 m1 n2 m2 40 (by omega) Ra Rb).mono ?_
  rintro e u6 ⟨rfl, e6⟩
  have x1 := box_below e6 x1 (lt_of_block x1)
  have x2 := box_below e6 x2 (lt_of_block x2)
  have x3 := box_below e6 x3 (lt_of_block x3)
  have Ra := Ra.below e6
  have Rb := Rb.below e6
  have Rc := Rc.below e6
  have C6 := chain2 C5 e6
  clear e6 C5 t0 t1 t2 t3 t4 t5 t6 t7
  obtain ⟨t0, t1, t2, t3⟩ := four_cell x1
  obtain ⟨t4, t5, t6, t7⟩ := four_cell x2
  obtain ⟨t8, t9, t10, t11⟩ := four_cell x3
  clear x1 x2 x3
  have hcb : -1 ≤ cmpZ (n1 * m2) (n2 * m1) ∧ cmpZ (n1 * m2) (n2 * m1) ≤ 1 := by
    unfold cmpZ
    (repeat' split) <;> omega
  have hc : (cmpZ (n1 * m2) (n2 * m1) == 0) = (x.toList == y.toList) := by
    by_cases h : x = y
    · have h2 := cmpZ_zero.2 (HS.out.2 h)
      rw [h2, h]; simp
    · have h2 : cmpZ (n1 * m2) (n2 * m1) ≠ 0 := fun k => h (HS.out.1 (cmpZ_zero.1 k))
      rw [beq_eq_false_iff_ne.2 h2]
      exact (beq_eq_false_iff_ne.2 fun k => h (tlq_inj k)).symm
  have HL := hid HL0.out
  have HR := hid HR0.out
  have HT := hid HT0.out
  clear HL0 HR0 HT0
  generalize cmpZ (n1 * m2) (n2 * m1) = c at *
  have B0 : Below u6.heap.size u6 u6.drew := (Below.refl _ _).drew
  have hw : IntKind.i64.wrap (-c) = -c := by
    have := hcb
    simp [IntKind.wrap, IntKind.signed, IntKind.bits, IntKind.min, IntKind.max]
    omega
  clear hcb
  all_goals
    go_wp2
    try simp only [List.append_eq, List.cons_append, List.nil_append]
    go_region_held3 (fun w' => w'.cell? ⟨k1, 0, none⟩ = some (Value.slice a1 l1 c1) ∧ w'.cell? ⟨k1, 1, none⟩ = some (Value.bool d1) ∧ w'.cell? ⟨k1, 2, none⟩ = some (Value.slice a2 l2 c2) ∧ w'.cell? ⟨k1, 3, none⟩ = some (Value.bool d2) ∧ w'.cell? ⟨k2, 0, none⟩ = some (Value.slice a5 l5 c5) ∧ w'.cell? ⟨k2, 1, none⟩ = some (Value.bool d5) ∧ w'.cell? ⟨k2, 2, none⟩ = some (Value.slice a6 l6 c6) ∧ w'.cell? ⟨k2, 3, none⟩ = some (Value.bool d6) ∧ w'.cell? ⟨k5, 0, none⟩ = some (Value.slice a9 l9 c9) ∧ w'.cell? ⟨k5, 1, none⟩ = some (Value.bool d9) ∧ w'.cell? ⟨k5, 2, none⟩ = some (Value.slice a10 l10 c10) ∧ w'.cell? ⟨k5, 3, none⟩ = some (Value.bool d10)) ((refine keep12 t0 t1 t2 t3 t4 t5 t6 t7 t8 t9 t10 t11 ?_; first | exact B0 | exact B1 | exact B2 | exact B3 | exact B4 | exact B5)) (first
      | (have gk := B4; go_at_call 13; refine (qcmp_any _ _ _ _ _ _ _ (2 * 193 + 12) (by omega) (n103.below hb104) (n104.mono (by omega))).mono ?_; rintro e w105 ⟨rfl, hb105⟩; have B5 := chain2 B4 hb105; rw [HT.out])
      | (have gk := B3; go_at_call 10; refine (qadd_any _ _ _ n1 m1 n2 m2 40 (by omega) (Ra.below B3) (Rb.below B3) HP.out.2.2).mono ?_; rintro e w104 ⟨v104, rfl, n104, hb104⟩; have B4 := chain2 B3 hb104; rw [HST.out.1, HST.out.2] at n104)
      | (have gk := B2; go_at_call 10; refine (qadd_any _ _ _ M Q M Q 193 (by omega) (Rc.below B2) (Rc.below B2) HQ.out).mono ?_; rintro e w103 ⟨v103, rfl, n103, hb103⟩; have B3 := chain2 B2 hb103)
      | (have gk := B1; go_at_call 13; refine (qcmp_any _ _ _ M Q n2 m2 193 (by omega) (Rc.below B1) ((Rb.below B1).mono (by omega))).mono ?_; rintro e w102 ⟨rfl, hb102⟩; have B2 := chain2 B1 hb102; rw [HR.out])
      | (have gk := B0; go_at_call 13; refine (qcmp_any _ _ _ M Q n1 m1 193 (by omega) (Rc.below B0) ((Ra.below B0).mono (by omega))).mono ?_; rintro e w101 ⟨rfl, hb101⟩; have B1 := chain2 B0 hb101; rw [HL.out]))
    all_goals
      have g9 := chain2 C6 B5
      clear B0 B1 B2 B3 B4 B5 hb101 hb102 hb103 hb104 hb105
      go_wp2
      go_ret
      exact ⟨rfl, g9⟩
end Go.Proofs.YtpajpfbgmgjnnaaGreatDoor
