/- NumOrder: what the call answers. -/
import Derived.Test.YtcpojpgmgkakeabNNumber
import Derived.Test.YtcpojpgmgkakeabNLong
import Derived.Test.YtcpojpgmgkakeabNCmp
namespace Go.Proofs.Ytcpojpgmgkakeab
open Go.RowKit
set_option linter.unusedVariables false
set_option maxRecDepth 100000
set_option linter.unusedSimpArgs false
attribute [local go_sem ↓] Go.wp_at_zero Go.wp_at_succ

theorem cmpZ_neg (a b : Int) : cmpZ b a = - cmpZ a b := by unfold cmpZ; (repeat' split) <;> omega
theorem cmpZ_negs (a b : Int) : cmpZ (-a) (-b) = - cmpZ a b := by unfold cmpZ; (repeat' split) <;> omega
theorem cmpZ_add (a b c : Int) : cmpZ (a + c) (b + c) = cmpZ a b := by unfold cmpZ; (repeat' split) <;> omega
theorem cmpZ_bd (a b : Int) : -1 ≤ cmpZ a b ∧ cmpZ a b ≤ 1 := by unfold cmpZ; (repeat' split) <;> omega
theorem cmpZ_zero (a b : Int) : cmpZ a b = 0 ↔ a = b := by unfold cmpZ; (repeat' split) <;> omega
theorem cmpZ_trans (a b c : Int) : 0 < cmpZ a b ∨ 0 < cmpZ b c ∨ cmpZ a c ≤ 0 := by unfold cmpZ; (repeat' split) <;> omega
theorem keepZ {W X : World} {p q r : Nat} {a b c d e f : Value} (h1 : W.cell? ⟨p, 0, none⟩ = some a) (h2 : W.cell? ⟨p, 1, none⟩ = some b) (h3 : W.cell? ⟨q, 0, none⟩ = some c) (h4 : W.cell? ⟨q, 1, none⟩ = some d) (h5 : W.cell? ⟨r, 0, none⟩ = some e) (h6 : W.cell? ⟨r, 1, none⟩ = some f) (h : Below W.heap.size W X) :
    X.cell? ⟨p, 0, none⟩ = some a ∧ X.cell? ⟨p, 1, none⟩ = some b ∧ X.cell? ⟨q, 0, none⟩ = some c ∧ X.cell? ⟨q, 1, none⟩ = some d ∧ X.cell? ⟨r, 0, none⟩ = some e ∧ X.cell? ⟨r, 1, none⟩ = some f := ⟨kc h h1, kc h h2, kc h h3, kc h h4, kc h h5, kc h h6⟩
theorem norder_same {x y : ByteArray} {X Y : Int} (hx : ZTx x X) (hy : ZTx y Y) : (x.toList == y.toList) = (cmpZ X Y == 0) := by
  by_cases h : x = y
  · subst h; rw [(cmpZ_zero X Y).2 (hx.uniq hy)]; simp
  · have h1 : (x.toList == y.toList) = false := beq_eq_false_iff_ne.2 (fun e => h (tl_inj e))
    have h2 : (cmpZ X Y == 0) = false := beq_eq_false_iff_ne.2 (fun e => h (hx.inj (by rw [(cmpZ_zero X Y).1 e]; exact hy)))
    rw [h1, h2]
set_option maxRecDepth 100000 in
set_option maxHeartbeats 4000000 in
theorem norder_any (x y z : ByteArray) (w : World) :
    Calls Try.prog 3 #[.string x, .string y, .string z] w fun e w' => e = .returned (.bool true) ∧ Below w.heap.size w w' := by
  have hb0 : Below w.heap.size w (w.alloc (Obj.cells #[.string x, .string y, .string z] 9)) := (Below.refl _ _).alloc (Nat.le_refl _) _
  go_enter Try.func3, Try.ntmps3
  go_wp2_with fail
  refine (long2_any _ w.heap.size 3 [x, y, z] (by omega) ?_).mono ?_
  · intro k hk
    match k, hk with
    | 0, _ => simp [go_sem, sg]
    | 1, _ => simp [go_sem, sg]
    | 2, _ => simp [go_sem, sg]
  rintro e w1 ⟨h | ⟨h, hsz⟩, rfl⟩
  · rw [h]
    go_wp2
    go_ret
    exact ⟨rfl, hb0⟩
  rw [h]
  have hx := hsz 0 (by omega)
  have hy := hsz 1 (by omega)
  have hz := hsz 2 (by omega)
  simp only [sg, List.getD_cons_zero, List.getD_cons_succ] at hx hy hz
  clear hsz h
  generalize w.alloc (Obj.cells #[.string x, .string y, .string z] 9) = w1 at *
  go_wp2_with fail
  refine (number2_any x _ (by omega)).mono ?_
  rintro e u1 ⟨⟨aa, la, ca, ar1, lr1, cr1, n1, b1, rfl, f1⟩, hb1⟩
  have F1 := hid f1
  clear f1
  go_wp2_with fail
  refine (number2_any y _ (by omega)).mono ?_
  rintro e u2 ⟨⟨ab, lb, cb, ar2, lr2, cr2, n2, b2, rfl, f2⟩, hb2⟩
  have F2 := hid f2
  clear f2
  go_wp2_with fail
  refine (number2_any z _ (by omega)).mono ?_
  rintro e u3 ⟨⟨ac, lc, cc, ar3, lr3, cr3, n3, b3, rfl, f3⟩, hb3⟩
  have F3 := hid f3
  clear f3
  have c1 := boxed2 hb1 (Obj.cells #[Value.slice aa la ca, Value.bool n1] 28) (Obj.cells #[Value.bool n1, Value.slice ar1 lr1 cr1] 33)
  have c2 := boxed2 hb2 (Obj.cells #[Value.slice ab lb cb, Value.bool n2] 28) (Obj.cells #[Value.bool n2, Value.slice ar2 lr2 cr2] 33)
  have c3 := boxed2 hb3 (Obj.cells #[Value.slice ac lc cc, Value.bool n3] 28) (Obj.cells #[Value.bool n3, Value.slice ar3 lr3 cr3] 33)
  have d1 := boxed2 (Below.refl u1.heap.size u1) (Obj.cells #[Value.slice aa la ca, Value.bool n1] 28) (Obj.cells #[Value.bool n1, Value.slice ar1 lr1 cr1] 33)
  have d2 := boxed2 (Below.refl u2.heap.size u2) (Obj.cells #[Value.slice ab lb cb, Value.bool n2] 28) (Obj.cells #[Value.bool n2, Value.slice ar2 lr2 cr2] 33)
  have d3 := boxed2 (Below.refl u3.heap.size u3) (Obj.cells #[Value.slice ac lc cc, Value.bool n3] 28) (Obj.cells #[Value.bool n3, Value.slice ar3 lr3 cr3] 33)
  have p1 := boxed2_first u1 (Obj.cells #[Value.slice aa la ca, Value.bool n1] 28) (Obj.cells #[Value.bool n1, Value.slice ar1 lr1 cr1] 33)
  have r1 := boxed2_second u1 (Obj.cells #[Value.slice aa la ca, Value.bool n1] 28) (Obj.cells #[Value.bool n1, Value.slice ar1 lr1 cr1] 33)
  have p2 := boxed2_first u2 (Obj.cells #[Value.slice ab lb cb, Value.bool n2] 28) (Obj.cells #[Value.bool n2, Value.slice ar2 lr2 cr2] 33)
  have r2 := boxed2_second u2 (Obj.cells #[Value.slice ab lb cb, Value.bool n2] 28) (Obj.cells #[Value.bool n2, Value.slice ar2 lr2 cr2] 33)
  have p3 := boxed2_first u3 (Obj.cells #[Value.slice ac lc cc, Value.bool n3] 28) (Obj.cells #[Value.bool n3, Value.slice ar3 lr3 cr3] 33)
  have r3 := boxed2_second u3 (Obj.cells #[Value.slice ac lc cc, Value.bool n3] 28) (Obj.cells #[Value.bool n3, Value.slice ar3 lr3 cr3] 33)
  clear hb1
  generalize (u1.alloc (Obj.cells #[Value.slice aa la ca, Value.bool n1] 28)).alloc (Obj.cells #[Value.bool n1, Value.slice ar1 lr1 cr1] 33) = W1 at *
  generalize (u2.alloc (Obj.cells #[Value.slice ab lb cb, Value.bool n2] 28)).alloc (Obj.cells #[Value.bool n2, Value.slice ar2 lr2 cr2] 33) = W2 at *
  have g1 : Below w.heap.size w ((u3.alloc (Obj.cells #[Value.slice ac lc cc, Value.bool n3] 28)).alloc (Obj.cells #[Value.bool n3, Value.slice ar3 lr3 cr3] 33)) := chain2 (chain2 (chain2 hb0 c1) c2) c3
  have q1 := (box_below c3 (box_below c2 p1 (lt_of_block p1)) (lt_of_block (box_below c2 p1 (lt_of_block p1))))
  have s1 := (box_below c3 (box_below c2 r1 (lt_of_block r1)) (lt_of_block (box_below c2 r1 (lt_of_block r1))))
  have q2 := (box_below c3 p2 (lt_of_block p2))
  have s2 := (box_below c3 r2 (lt_of_block r2))
  have q3 := p3
  have s3 := r3
  have hall : b1 = true ∧ b2 = true ∧ b3 = true ∨ b1 = false ∨ b2 = false ∨ b3 = false := by
    cases b1 <;> cases b2 <;> cases b3 <;> simp
  rcases hall with ⟨rfl, rfl, rfl⟩ | hall
  · obtain ⟨X, tx, e1, na1, ra1⟩ := F1.out rfl
    obtain ⟨Y, ty, e2, na2, ra2⟩ := F2.out rfl
    obtain ⟨Z, tz, e3, na3, ra3⟩ := F3.out rfl
    have Na : NumIs ((u3.alloc (Obj.cells #[Value.slice ac lc cc, Value.bool n3] 28)).alloc (Obj.cells #[Value.bool n3, Value.slice ar3 lr3 cr3] 33)) (Value.agg #[Value.slice aa la ca, Value.bool n1]) X 60 := ⟨_, _, _, by rw [e1], (((na1.below d1).below c2).below c3).mono (show _ ≤ 60 by omega)⟩
    have TX := hid tx
    have H1 := hid e1
    have Nb : NumIs ((u3.alloc (Obj.cells #[Value.slice ac lc cc, Value.bool n3] 28)).alloc (Obj.cells #[Value.bool n3, Value.slice ar3 lr3 cr3] 33)) (Value.agg #[Value.slice ab lb cb, Value.bool n2]) Y 60 := ⟨_, _, _, by rw [e2], ((na2.below d2).below c3).mono (show _ ≤ 60 by omega)⟩
    have TY := hid ty
    have H2 := hid e2
    have Nc : NumIs ((u3.alloc (Obj.cells #[Value.slice ac lc cc, Value.bool n3] 28)).alloc (Obj.cells #[Value.bool n3, Value.slice ar3 lr3 cr3] 33)) (Value.agg #[Value.slice ac lc cc, Value.bool n3]) Z 60 := ⟨_, _, _, by rw [e3], (na3.below d3).mono (show _ ≤ 60 by omega)⟩
    have TZ := hid tz
    have H3 := hid e3
    have v1 := box_below hb3 (box_below c2 p1 (lt_of_block p1)) (lt_of_block (box_below c2 p1 (lt_of_block p1)))
    have m1 := two_cell0 v1
    have o1 := two_cell1 v1
    have l1 := lt_of_block v1
    clear v1
    have v2 := box_below hb3 p2 (lt_of_block p2)
    have m2 := two_cell0 v2
    have o2 := two_cell1 v2
    have l2 := lt_of_block v2
    clear v2
    clear F1 F2 F3 c1 c2 c3 d1 d2 d3 hb2 hb3 e1 e2 e3 na1 na2 na3 ra1 ra2 ra3 tx ty tz p1 p2 p3 r1 r2 r3
    go_wp2_with fail
    generalize ((u3.alloc (Obj.cells #[Value.slice ac lc cc, Value.bool n3] 28)).alloc (Obj.cells #[Value.bool n3, Value.slice ar3 lr3 cr3] 33)) = W3 at *
    refine (ncmp_any _ _ _ _ _ _ _ (by omega) (by omega) Na Nb).mono ?_
    rintro e w4 ⟨rfl, hb4⟩
    have Na := Na.below hb4
    have Nb := Nb.below hb4
    have Nc := Nc.below hb4
    have q1 := box_below hb4 q1 (lt_of_block q1)
    have q2 := box_below hb4 q2 (lt_of_block q2)
    have q3 := box_below hb4 q3 (lt_of_block q3)
    have g4 := chain2 g1 hb4
    clear hb4 g1 s1 s2 s3 m1 m2 o1 o2 l1 l2
    have E := hid (norder_same TX.out TY.out)
    have E2 := hid (cmpZ_neg X Y)
    have E3 := hid (cmpZ_negs X Y)
    have E4 := hid (cmpZ_add X Y Z)
    have E6 := hid (cmpZ_trans X Y Z)
    obtain ⟨E5a, E5b⟩ := cmpZ_bd X Y
    obtain ⟨q, hq⟩ : ∃ q, cmpZ X Y = q := ⟨_, rfl⟩
    rw [hq] at E E2 E3 E4 E6 E5a E5b ⊢
    have HQ := hid hq
    clear hq
    have EX : (x.toList == y.toList) = (q == 0) := E.out
    have t1 := two_cell0 q1
    have t2 := two_cell1 q1
    have t3 := two_cell0 q2
    have t4 := two_cell1 q2
    have t5 := two_cell0 q3
    have t6 := two_cell1 q3
    go_wp2
    have hwr : IntKind.i64.wrap q = q := by simp [IntKind.wrap, IntKind.bits, IntKind.signed]; omega
    have hwn : IntKind.i64.wrap (-q) = -q := by simp [IntKind.wrap, IntKind.bits, IntKind.signed]; omega
    have B0 : Below w4.heap.size w4 w4.drew := (Below.refl _ _).drew
    go_region_held3 (fun w' => w'.cell? ⟨u1.heap.size, 0, none⟩ = some (Value.slice aa la ca) ∧ w'.cell? ⟨u1.heap.size, 1, none⟩ = some (Value.bool n1) ∧ w'.cell? ⟨u2.heap.size, 0, none⟩ = some (Value.slice ab lb cb) ∧ w'.cell? ⟨u2.heap.size, 1, none⟩ = some (Value.bool n2) ∧ w'.cell? ⟨u3.heap.size, 0, none⟩ = some (Value.slice ac lc cc) ∧ w'.cell? ⟨u3.heap.size, 1, none⟩ = some (Value.bool n3)) ((refine keepZ t1 t2 t3 t4 t5 t6 ?_; first | exact B0 | exact B1 | exact B2 | exact B3 | exact B4 | exact B5 | exact B6 | exact B7)) (first
      | (have gk := B6; go_at_call 6; refine (ncmp_any _ _ _ _ _ _ _ (by omega) (by omega) n105 n106).mono ?_; rintro e w107 ⟨rfl, hb107⟩; have B7 := chain2 B6 hb107; rw [E4.out])
      | (have gk := B5; go_at_call 8; refine (nadd_any _ _ _ _ _ _ _ (by omega) (by omega) (Nb.below B5) (Nc.below B5)).mono ?_; rintro e w106 ⟨v106, rfl, n106, hb106⟩; have B6 := chain2 B5 hb106; have n105 := n105.below hb106)
      | (have gk := B4; go_at_call 8; refine (nadd_any _ _ _ _ _ _ _ (by omega) (by omega) (Na.below B4) (Nc.below B4)).mono ?_; rintro e w105 ⟨v105, rfl, n105, hb105⟩; have B5 := chain2 B4 hb105)
      | (have gk := B3; go_at_call 6; refine (ncmp_any _ _ _ _ _ _ _ (by omega) (by omega) n102 n103).mono ?_; rintro e w104 ⟨rfl, hb104⟩; have B4 := chain2 B3 hb104; rw [E3.out])
      | (have gk := B2; go_at_call 7; refine (nneg_any _ _ _ _ (by omega) (Nb.below B2)).mono ?_; rintro e w103 ⟨v103, rfl, n103, hb103⟩; have B3 := chain2 B2 hb103; have n102 := n102.below hb103)
      | (have gk := B1; go_at_call 7; refine (nneg_any _ _ _ _ (by omega) (Na.below B1)).mono ?_; rintro e w102 ⟨v102, rfl, n102, hb102⟩; have B2 := chain2 B1 hb102)
      | (have gk := B0; go_at_call 6; refine (ncmp_any _ _ _ _ _ _ _ (by omega) (by omega) (Nb.below B0) (Na.below B0)).mono ?_; rintro e w101 ⟨rfl, hb101⟩; have B1 := chain2 B0 hb101; rw [E2.out]))
    obtain ⟨v1, v2, v3, v4, v5, v6⟩ := keepZ t1 t2 t3 t4 t5 t6 B7
    have Na := Na.below B7
    have Nb := Nb.below B7
    have Nc := Nc.below B7
    have g8 := chain2 g4 B7
    clear B0 B1 B2 B3 B4 B5 B6 B7 hb101 hb102 hb103 hb104 hb105 hb106 hb107 t1 t2 t3 t4 t5 t6 q1 q2 q3 n105 n106 n102 n103 hwr hwn EX g4
    have E4' : 0 < q ∨ (¬ 0 < q ∧ 0 < cmpZ Y Z) ∨ (¬ 0 < q ∧ ¬ 0 < cmpZ Y Z ∧ cmpZ X Z ≤ 0) := by
      have := E6.out
      by_cases h1 : 0 < q
      · exact Or.inl h1
      · by_cases h2 : 0 < cmpZ Y Z
        · exact Or.inr (Or.inl ⟨h1, h2⟩)
        · exact Or.inr (Or.inr ⟨h1, h2, by omega⟩)
    rcases E4' with h1 | ⟨h1, h2⟩ | ⟨h1, h2, h3⟩
    · go_wp2_with fail
      refine (ncmp_any _ _ _ _ _ _ _ (by omega) (by omega) Na Nb).mono ?_
      rintro e w9 ⟨rfl, hb9⟩
      rw [HQ.out]
      have g9 := chain2 g8 hb9
      go_wp2
      go_ret
      exact ⟨rfl, g9⟩
    · go_wp2_with fail
      refine (ncmp_any _ _ _ _ _ _ _ (by omega) (by omega) Na Nb).mono ?_
      rintro e w9 ⟨rfl, hb9⟩
      rw [HQ.out]
      have g9 := chain2 g8 hb9
      obtain ⟨v1, v2, v3, v4, v5, v6⟩ := keepZ v1 v2 v3 v4 v5 v6 hb9
      go_wp2_with fail
      refine (ncmp_any _ _ _ _ _ _ _ (by omega) (by omega) (Nb.below hb9) (Nc.below hb9)).mono ?_
      rintro e w10 ⟨rfl, hb10⟩
      have g10 := chain2 g9 hb10
      go_wp2
      go_ret
      exact ⟨rfl, g10⟩
    · go_wp2_with fail
      refine (ncmp_any _ _ _ _ _ _ _ (by omega) (by omega) Na Nb).mono ?_
      rintro e w9 ⟨rfl, hb9⟩
      rw [HQ.out]
      have g9 := chain2 g8 hb9
      obtain ⟨v1, v2, v3, v4, v5, v6⟩ := keepZ v1 v2 v3 v4 v5 v6 hb9
      go_wp2_with fail
      refine (ncmp_any _ _ _ _ _ _ _ (by omega) (by omega) (Nb.below hb9) (Nc.below hb9)).mono ?_
      rintro e w10 ⟨rfl, hb10⟩
      have g10 := chain2 g9 hb10
      obtain ⟨v1, v2, v3, v4, v5, v6⟩ := keepZ v1 v2 v3 v4 v5 v6 hb10
      go_wp2_with fail
      refine (ncmp_any _ _ _ _ _ _ _ (by omega) (by omega) ((Na.below hb9).below hb10) ((Nc.below hb9).below hb10)).mono ?_
      rintro e w11 ⟨rfl, hb11⟩
      have g11 := chain2 g10 hb11
      go_wp2
      go_ret
      exact ⟨rfl, g11⟩
  · have hb : b1 = false ∨ b1 = true ∧ b2 = false ∨ b1 = true ∧ b2 = true ∧ b3 = false := by
      cases b1 <;> cases b2 <;> cases b3 <;> simp at hall ⊢
    clear hall F1 F2 F3 c1 d1 p1 r1 q1 s1 c2 d2 p2 r2 q2 s2 c3 d3 p3 r3 q3 s3 hb2 hb3
    rcases hb with rfl | ⟨rfl, rfl⟩ | ⟨rfl, rfl, rfl⟩
    all_goals
      go_wp2
      go_ret
      exact ⟨rfl, g1⟩
end Go.Proofs.Ytcpojpgmgkakeab
