/- NumBack: what the call answers. -/
import Derived.Test.YtciecncdejlkkaaNNumber
import Derived.Test.YtciecncdejlkkaaNLong
import Derived.Test.YtciecncdejlkkaaNCmp
import Derived.Test.YtciecncdejlkkaaNMul
import Derived.Test.YtciecncdejlkkaaNAbs
import Derived.Test.YtciecncdejlkkaaNQuo
namespace Go.Proofs.Ytciecncdejlkkaa
open Go.RowKit
set_option linter.unusedVariables false
set_option maxRecDepth 100000
set_option linter.unusedSimpArgs false
attribute [local go_sem ↓] Go.wp_at_zero Go.wp_at_succ

theorem keepV {W X : World} {p1 p2 p3 p4 p5 p6 : Nat} {x1 y1 x2 y2 x3 y3 x4 y4 x5 y5 x6 y6 : Value} (h1 : W.cell? ⟨p1, 0, none⟩ = some x1) (k1 : W.cell? ⟨p1, 1, none⟩ = some y1) (h2 : W.cell? ⟨p2, 0, none⟩ = some x2) (k2 : W.cell? ⟨p2, 1, none⟩ = some y2) (h3 : W.cell? ⟨p3, 0, none⟩ = some x3) (k3 : W.cell? ⟨p3, 1, none⟩ = some y3) (h4 : W.cell? ⟨p4, 0, none⟩ = some x4) (k4 : W.cell? ⟨p4, 1, none⟩ = some y4) (h5 : W.cell? ⟨p5, 0, none⟩ = some x5) (k5 : W.cell? ⟨p5, 1, none⟩ = some y5) (h6 : W.cell? ⟨p6, 0, none⟩ = some x6) (k6 : W.cell? ⟨p6, 1, none⟩ = some y6) (h : Below W.heap.size W X) :
    X.cell? ⟨p1, 0, none⟩ = some x1 ∧ X.cell? ⟨p1, 1, none⟩ = some y1 ∧ X.cell? ⟨p2, 0, none⟩ = some x2 ∧ X.cell? ⟨p2, 1, none⟩ = some y2 ∧ X.cell? ⟨p3, 0, none⟩ = some x3 ∧ X.cell? ⟨p3, 1, none⟩ = some y3 ∧ X.cell? ⟨p4, 0, none⟩ = some x4 ∧ X.cell? ⟨p4, 1, none⟩ = some y4 ∧ X.cell? ⟨p5, 0, none⟩ = some x5 ∧ X.cell? ⟨p5, 1, none⟩ = some y5 ∧ X.cell? ⟨p6, 0, none⟩ = some x6 ∧ X.cell? ⟨p6, 1, none⟩ = some y6 := ⟨kc h h1, kc h k1, kc h h2, kc h k2, kc h h3, kc h k3, kc h h4, kc h k4, kc h h5, kc h k5, kc h h6, kc h k6⟩
theorem cmpZ_eq {a b : Int} (h : a = b) : cmpZ a b = 0 := by subst h; simp [cmpZ]
theorem sign_small (a : Int) : -1 ≤ signZ a ∧ signZ a ≤ 1 := by unfold signZ; (repeat' split) <;> omega
theorem sign_prod {a b : Int} (h : 0 ≤ a ∧ 0 ≤ b ∨ a ≤ 0 ∧ b ≤ 0) : 0 ≤ signZ a * signZ b := by
  have e1 : signZ a = -1 ∧ a < 0 ∨ signZ a = 0 ∨ signZ a = 1 ∧ 0 < a := by unfold signZ; (repeat' split) <;> omega
  have e2 : signZ b = -1 ∧ b < 0 ∨ signZ b = 0 ∨ signZ b = 1 ∧ 0 < b := by unfold signZ; (repeat' split) <;> omega
  rcases e1 with ⟨e1, _⟩ | e1 | ⟨e1, _⟩ <;> rcases e2 with ⟨e2, _⟩ | e2 | ⟨e2, _⟩ <;> rw [e1, e2] <;> omega
theorem small_wrap {a b : Int} (ha : -1 ≤ a ∧ a ≤ 1) (hb : -1 ≤ b ∧ b ≤ 1) : wrap64 (a * b) = a * b ∧ IntKind.i64.wrap (a * b) = a * b := by
  have h : -1 ≤ a * b ∧ a * b ≤ 1 := by
    have e1 : a = -1 ∨ a = 0 ∨ a = 1 := by omega
    rcases e1 with rfl | rfl | rfl <;> omega
  generalize a * b = q at *
  exact ⟨by rw [wrap64]; omega, by simp [IntKind.wrap, IntKind.bits, IntKind.signed]; omega⟩
theorem tmod_facts {x y : Int} (h0 : y ≠ 0) : (x.tmod y).natAbs < y.natAbs ∧ (0 ≤ x.tmod y ∧ 0 ≤ x ∨ x.tmod y ≤ 0 ∧ x ≤ 0) := by
  have hl := Int.natAbs_tmod x y
  refine ⟨by rw [hl]; exact Nat.mod_lt _ (by omega), ?_⟩
  rcases Int.lt_or_le x 0 with hx | hx
  · right
    have := Int.tmod_nonneg (a := -x) y (by omega)
    rw [Int.neg_tmod] at this
    exact ⟨by omega, by omega⟩
  · exact Or.inl ⟨Int.tmod_nonneg y hx, hx⟩
theorem fmod_facts {x y : Int} (h0 : y ≠ 0) : (x.fmod y).natAbs < y.natAbs ∧ (0 ≤ x.fmod y ∧ 0 ≤ y ∨ x.fmod y ≤ 0 ∧ y ≤ 0) ∧ x.fdiv y * y + x.fmod y = x := by
  rcases Int.lt_or_le y 0 with hy | hy
  · obtain ⟨h1, h2, h3⟩ := (Int.fdiv_fmod_unique' (q := x.fdiv y) (r := x.fmod y) hy).1 ⟨rfl, rfl⟩
    exact ⟨by omega, Or.inr ⟨by omega, by omega⟩, by rw [Int.mul_comm]; omega⟩
  · obtain ⟨h1, h2, h3⟩ := (Int.fdiv_fmod_unique (q := x.fdiv y) (r := x.fmod y) (show 0 < y by omega)).1 ⟨rfl, rfl⟩
    exact ⟨by omega, Or.inl ⟨by omega, by omega⟩, by rw [Int.mul_comm]; omega⟩
set_option maxRecDepth 100000 in
set_option maxHeartbeats 4000000 in
theorem nback_any (x y : ByteArray) (w : World) :
    Calls Try.prog 3 #[.string x, .string y] w fun e w' => e = .returned (.bool true) ∧ Below w.heap.size w w' := by
  have hb0 : Below w.heap.size w (w.alloc (Obj.cells #[.string x, .string y] 9)) := (Below.refl _ _).alloc (Nat.le_refl _) _
  go_enter Try.func3, Try.ntmps3
  go_wp2_with fail
  refine (long2_any _ w.heap.size 2 [x, y] (by omega) ?_).mono ?_
  · intro k hk
    match k, hk with
    | 0, _ => simp [go_sem, sg]
    | 1, _ => simp [go_sem, sg]
  rintro e w1 ⟨h | ⟨h, hsz⟩, rfl⟩
  · rw [h]
    go_wp2
    go_ret
    exact ⟨rfl, hb0⟩
  rw [h]
  have hx := hsz 0 (by omega)
  have hy := hsz 1 (by omega)
  simp only [sg, List.getD_cons_zero, List.getD_cons_succ] at hx hy
  clear hsz h
  generalize w.alloc (Obj.cells #[.string x, .string y] 9) = w1 at *
  go_wp2_with fail
  refine (number2_any x _ (by omega)).mono ?_
  rintro e u1 ⟨⟨aa, la, ca, ar1, lr1, cr1, n1, b1, rfl, f1⟩, hb1⟩
  have F1 := hid f1
  clear f1
  go_wp2_with fail
  refine (number2_any y _ (by omega)).mono ?_
  rintro e u2 ⟨⟨ab, lb, cb, ar2, lr2, cr2, n2, b2, rfl, f2⟩, hb2⟩
  have F2 := hid f2
  clear f2
  have c1 := boxed2 hb1 (Obj.cells #[Value.slice aa la ca, Value.bool n1] 28) (Obj.cells #[Value.bool n1, Value.slice ar1 lr1 cr1] 33)
  have c2 := boxed2 hb2 (Obj.cells #[Value.slice ab lb cb, Value.bool n2] 28) (Obj.cells #[Value.bool n2, Value.slice ar2 lr2 cr2] 33)
  have d1 := boxed2 (Below.refl u1.heap.size u1) (Obj.cells #[Value.slice aa la ca, Value.bool n1] 28) (Obj.cells #[Value.bool n1, Value.slice ar1 lr1 cr1] 33)
  have d2 := boxed2 (Below.refl u2.heap.size u2) (Obj.cells #[Value.slice ab lb cb, Value.bool n2] 28) (Obj.cells #[Value.bool n2, Value.slice ar2 lr2 cr2] 33)
  have p1 := boxed2_first u1 (Obj.cells #[Value.slice aa la ca, Value.bool n1] 28) (Obj.cells #[Value.bool n1, Value.slice ar1 lr1 cr1] 33)
  have r1 := boxed2_second u1 (Obj.cells #[Value.slice aa la ca, Value.bool n1] 28) (Obj.cells #[Value.bool n1, Value.slice ar1 lr1 cr1] 33)
  have p2 := boxed2_first u2 (Obj.cells #[Value.slice ab lb cb, Value.bool n2] 28) (Obj.cells #[Value.bool n2, Value.slice ar2 lr2 cr2] 33)
  have r2 := boxed2_second u2 (Obj.cells #[Value.slice ab lb cb, Value.bool n2] 28) (Obj.cells #[Value.bool n2, Value.slice ar2 lr2 cr2] 33)
  clear hb1
  generalize (u1.alloc (Obj.cells #[Value.slice aa la ca, Value.bool n1] 28)).alloc (Obj.cells #[Value.bool n1, Value.slice ar1 lr1 cr1] 33) = W1 at *
  have g1 : Below w.heap.size w ((u2.alloc (Obj.cells #[Value.slice ab lb cb, Value.bool n2] 28)).alloc (Obj.cells #[Value.bool n2, Value.slice ar2 lr2 cr2] 33)) := chain2 (chain2 hb0 c1) c2
  have q1 := (box_below c2 p1 (lt_of_block p1))
  have s1 := (box_below c2 r1 (lt_of_block r1))
  have q2 := p2
  have s2 := r2
  have hall : b1 = true ∧ b2 = true ∨ b1 = false ∨ b2 = false := by
    cases b1 <;> cases b2 <;> simp
  rcases hall with ⟨rfl, rfl⟩ | hall
  · obtain ⟨X, tx, e1, na1, ra1⟩ := F1.out rfl
    obtain ⟨Y, ty, e2, na2, ra2⟩ := F2.out rfl
    have Na : NumIs ((u2.alloc (Obj.cells #[Value.slice ab lb cb, Value.bool n2] 28)).alloc (Obj.cells #[Value.bool n2, Value.slice ar2 lr2 cr2] 33)) (Value.agg #[Value.slice aa la ca, Value.bool n1]) X 60 := ⟨_, _, _, by rw [e1], ((na1.below d1).below c2).mono (show _ ≤ 60 by omega)⟩
    have TX := hid tx
    have H1 := hid e1
    have Nb : NumIs ((u2.alloc (Obj.cells #[Value.slice ab lb cb, Value.bool n2] 28)).alloc (Obj.cells #[Value.bool n2, Value.slice ar2 lr2 cr2] 33)) (Value.agg #[Value.slice ab lb cb, Value.bool n2]) Y 60 := ⟨_, _, _, by rw [e2], (na2.below d2).mono (show _ ≤ 60 by omega)⟩
    have TY := hid ty
    have H2 := hid e2
    have v1 := box_below hb2 p1 (lt_of_block p1)
    have m1 := two_cell0 v1
    have o1 := two_cell1 v1
    have l1 := lt_of_block v1
    clear v1
    clear F1 F2 c1 c2 d1 d2 hb2 e1 e2 na1 na2 ra1 ra2 tx ty p1 p2 r1 r2
    have t1 := two_cell0 q1
    have t2 := two_cell1 q1
    have t3 := two_cell0 q2
    have t4 := two_cell1 q2
    go_wp2_with fail
    generalize ((u2.alloc (Obj.cells #[Value.slice ab lb cb, Value.bool n2] 28)).alloc (Obj.cells #[Value.bool n2, Value.slice ar2 lr2 cr2] 33)) = W2 at *
    by_cases h0 : Y = 0
    · subst h0
      refine (nquo_zero _ _ _ X 60 (by omega) Na Nb).mono ?_
      rintro e w3 ⟨rfl, hb3⟩
      have X3 := boxed2 hb3 (Obj.cells #[Value.slice none 0 0, Value.bool false] 28) (Obj.cells #[Value.slice none 0 0, Value.bool false] 28)
      have C3 := chain2 g1 X3
      have q1 := box_below X3 q1 (lt_of_block q1)
      have q2 := box_below X3 q2 (lt_of_block q2)
      have Na := Na.below X3
      have Nb := Nb.below X3
      clear t1 t2 t3 t4 X3 hb3 m1 o1
      have t1 := two_cell0 q1
      have t2 := two_cell1 q1
      have t3 := two_cell0 q2
      have t4 := two_cell1 q2
      go_wp2_with fail
      generalize (w3.alloc (Obj.cells #[Value.slice none 0 0, Value.bool false] 28)).alloc (Obj.cells #[Value.slice none 0 0, Value.bool false] 28) = W3 at *
      refine (ndm_zero _ _ _ X 60 (by omega) Na Nb).mono ?_
      rintro e w4 ⟨rfl, hb4⟩
      have X4 := boxed2 hb4 (Obj.cells #[Value.slice none 0 0, Value.bool false] 28) (Obj.cells #[Value.slice none 0 0, Value.bool false] 28)
      have C4 := chain2 C3 X4
      have q2 := box_below X4 q2 (lt_of_block q2)
      have Nb := Nb.below X4
      clear t1 t2 t3 t4 X4 hb4
      have t3 := two_cell0 q2
      have t4 := two_cell1 q2
      go_wp2_with fail
      generalize (w4.alloc (Obj.cells #[Value.slice none 0 0, Value.bool false] 28)).alloc (Obj.cells #[Value.slice none 0 0, Value.bool false] 28) = W4 at *
      refine (nsign_any _ _ _ _ (by omega) Nb).mono ?_
      rintro e w5 ⟨rfl, hb5⟩
      rw [show signZ 0 = 0 from rfl]
      have CE := chain2 C4 hb5
      go_wp2
      go_ret
      exact ⟨rfl, CE⟩
    · refine (nquo_any _ _ _ X Y 60 (by omega) Na Nb h0).mono ?_
      rintro e w3 ⟨⟨vq, vm, rfl, Nq, Nm⟩, hb3⟩
      have Nq' := Nq
      have Nm' := Nm
      obtain ⟨aq, lq, cq, rfl, _⟩ := Nq'
      obtain ⟨am, lm, cm, rfl, _⟩ := Nm'
      obtain ⟨d1, hd1⟩ : ∃ d, decide (X.tdiv Y < 0) = d := ⟨_, rfl⟩
      obtain ⟨d2, hd2⟩ : ∃ d, decide (X.tmod Y < 0) = d := ⟨_, rfl⟩
      rw [hd1] at Nq ⊢
      rw [hd2] at Nm ⊢
      clear hd1 hd2
      have X3 := boxed2 hb3 (Obj.cells #[Value.slice aq lq cq, Value.bool d1] 28) (Obj.cells #[Value.slice am lm cm, Value.bool d2] 28)
      have Y3 := boxed2 (Below.refl w3.heap.size w3) (Obj.cells #[Value.slice aq lq cq, Value.bool d1] 28) (Obj.cells #[Value.slice am lm cm, Value.bool d2] 28)
      have q3 := boxed2_first w3 (Obj.cells #[Value.slice aq lq cq, Value.bool d1] 28) (Obj.cells #[Value.slice am lm cm, Value.bool d2] 28)
      have q4 := boxed2_second w3 (Obj.cells #[Value.slice aq lq cq, Value.bool d1] 28) (Obj.cells #[Value.slice am lm cm, Value.bool d2] 28)
      have C3 := chain2 g1 X3
      have q1 := box_below X3 q1 (lt_of_block q1)
      have q2 := box_below X3 q2 (lt_of_block q2)
      have Na := Na.below X3
      have Nb := Nb.below X3
      have Nq := Nq.below Y3
      have Nm := Nm.below Y3
      clear t1 t2 t3 t4 X3 Y3 hb3 m1 o1
      have t1 := two_cell0 q1
      have t2 := two_cell1 q1
      have t3 := two_cell0 q2
      have t4 := two_cell1 q2
      go_wp2_with fail
      generalize (w3.alloc (Obj.cells #[Value.slice aq lq cq, Value.bool d1] 28)).alloc (Obj.cells #[Value.slice am lm cm, Value.bool d2] 28) = W3 at *
      refine (ndm_any _ _ _ X Y 60 (by omega) Na Nb h0).mono ?_
      rintro e w4 ⟨⟨vu, vv, rfl, Nu, Nv⟩, hb4⟩
      have Nu' := Nu
      have Nv' := Nv
      obtain ⟨au, lu, cu, rfl, _⟩ := Nu'
      obtain ⟨av, lv, cv, rfl, _⟩ := Nv'
      obtain ⟨d3, hd3⟩ : ∃ d, decide (X.fdiv Y < 0) = d := ⟨_, rfl⟩
      obtain ⟨d4, hd4⟩ : ∃ d, decide (X.fmod Y < 0) = d := ⟨_, rfl⟩
      rw [hd3] at Nu ⊢
      rw [hd4] at Nv ⊢
      clear hd3 hd4
      have X4 := boxed2 hb4 (Obj.cells #[Value.slice au lu cu, Value.bool d3] 28) (Obj.cells #[Value.slice av lv cv, Value.bool d4] 28)
      have Y4 := boxed2 (Below.refl w4.heap.size w4) (Obj.cells #[Value.slice au lu cu, Value.bool d3] 28) (Obj.cells #[Value.slice av lv cv, Value.bool d4] 28)
      have q5 := boxed2_first w4 (Obj.cells #[Value.slice au lu cu, Value.bool d3] 28) (Obj.cells #[Value.slice av lv cv, Value.bool d4] 28)
      have q6 := boxed2_second w4 (Obj.cells #[Value.slice au lu cu, Value.bool d3] 28) (Obj.cells #[Value.slice av lv cv, Value.bool d4] 28)
      have C4 := chain2 C3 X4
      have q1 := box_below X4 q1 (lt_of_block q1)
      have q2 := box_below X4 q2 (lt_of_block q2)
      have q3 := box_below X4 q3 (lt_of_block q3)
      have q4 := box_below X4 q4 (lt_of_block q4)
      have Na := Na.below X4
      have Nb := Nb.below X4
      have Nq := Nq.below X4
      have Nm := Nm.below X4
      have Nu := Nu.below Y4
      have Nv := Nv.below Y4
      clear t1 t2 t3 t4 X4 Y4 hb4
      have t3 := two_cell0 q2
      have t4 := two_cell1 q2
      go_wp2_with fail
      generalize (w4.alloc (Obj.cells #[Value.slice au lu cu, Value.bool d3] 28)).alloc (Obj.cells #[Value.slice av lv cv, Value.bool d4] 28) = W4 at *
      refine (nsign_any _ _ _ _ (by omega) Nb).mono ?_
      rintro e w5 ⟨rfl, hb5⟩
      clear t3 t4
      have CE := chain2 C4 hb5
      have t1 := kc hb5 (two_cell0 q1)
      have t2 := kc hb5 (two_cell1 q1)
      have t3 := kc hb5 (two_cell0 q2)
      have t4 := kc hb5 (two_cell1 q2)
      have t5 := kc hb5 (two_cell0 q3)
      have t6 := kc hb5 (two_cell1 q3)
      have t7 := kc hb5 (two_cell0 q4)
      have t8 := kc hb5 (two_cell1 q4)
      have t9 := kc hb5 (two_cell0 q5)
      have t10 := kc hb5 (two_cell1 q5)
      have t11 := kc hb5 (two_cell0 q6)
      have t12 := kc hb5 (two_cell1 q6)
      have Na := Na.below hb5
      have Nb := Nb.below hb5
      have Nq := Nq.below hb5
      have Nm := Nm.below hb5
      have Nu := Nu.below hb5
      have Nv := Nv.below hb5
      have E1 := hid (cmpZ_eq (show X.tdiv Y * Y + X.tmod Y = X by rw [Int.mul_comm, Int.add_comm]; exact Int.tmod_add_mul_tdiv X Y))
      obtain ⟨F1, F2⟩ := tmod_facts (x := X) h0
      obtain ⟨G1, G2, G3⟩ := fmod_facts (x := X) h0
      have E2 := hid (cmpZ_eq G3)
      have E3 := hid (cmpI_lt F1)
      have E4 := hid (cmpI_lt G1)
      have P1 := sign_prod F2
      have P2 := sign_prod G2
      obtain ⟨w1', w1''⟩ := small_wrap (sign_small (X.tmod Y)) (sign_small X)
      obtain ⟨w2', w2''⟩ := small_wrap (sign_small (X.fmod Y)) (sign_small Y)
      have hs := signZ_ne h0
      obtain ⟨S1, hs1⟩ : ∃ q, signZ (X.tmod Y) = q := ⟨_, rfl⟩
      obtain ⟨S2, hs2⟩ : ∃ q, signZ X = q := ⟨_, rfl⟩
      obtain ⟨S3, hs3⟩ : ∃ q, signZ (X.fmod Y) = q := ⟨_, rfl⟩
      obtain ⟨S4, hs4⟩ : ∃ q, signZ Y = q := ⟨_, rfl⟩
      rw [hs1, hs2] at P1 w1' w1''
      rw [hs3, hs4] at P2 w2' w2''
      rw [hs4] at hs ⊢
      have HS1 := hid hs1
      have HS2 := hid hs2
      have HS3 := hid hs3
      have HS4 := hid hs4
      have hz1 : (S4 == 0) = false := beq_eq_false_iff_ne.2 hs
      clear hs1 hs2 hs3 hs4 F1 F2 G1 G2 G3 q1 q2 q3 q4 q5 q6 hb5
      go_wp2
      have B0 : Below w5.heap.size w5 w5.drew := (Below.refl _ _).drew
      go_region_held3 (fun w' => w'.cell? ⟨u1.heap.size, 0, none⟩ = some (Value.slice aa la ca) ∧ w'.cell? ⟨u1.heap.size, 1, none⟩ = some (Value.bool n1) ∧ w'.cell? ⟨u2.heap.size, 0, none⟩ = some (Value.slice ab lb cb) ∧ w'.cell? ⟨u2.heap.size, 1, none⟩ = some (Value.bool n2) ∧ w'.cell? ⟨w3.heap.size, 0, none⟩ = some (Value.slice aq lq cq) ∧ w'.cell? ⟨w3.heap.size, 1, none⟩ = some (Value.bool d1) ∧ w'.cell? ⟨w3.heap.size + 1, 0, none⟩ = some (Value.slice am lm cm) ∧ w'.cell? ⟨w3.heap.size + 1, 1, none⟩ = some (Value.bool d2) ∧ w'.cell? ⟨w4.heap.size, 0, none⟩ = some (Value.slice au lu cu) ∧ w'.cell? ⟨w4.heap.size, 1, none⟩ = some (Value.bool d3) ∧ w'.cell? ⟨w4.heap.size + 1, 0, none⟩ = some (Value.slice av lv cv) ∧ w'.cell? ⟨w4.heap.size + 1, 1, none⟩ = some (Value.bool d4)) ((refine keepV t1 t2 t3 t4 t5 t6 t7 t8 t9 t10 t11 t12 ?_; first | exact B0 | exact B1 | exact B2 | exact B3 | exact B4 | exact B5 | exact B6 | exact B7 | exact B8 | exact B9 | exact B10 | exact B11 | exact B12 | exact B13 | exact B14 | exact B15 | exact B16)) (first
      | (have gk := B15; go_at_call 8; refine (nsign_any _ _ _ _ (by omega) (Nb.below B15)).mono ?_; rintro e w116 ⟨rfl, hb116⟩; have B16 := chain2 B15 hb116; rw [HS4.out])
      | (have gk := B14; go_at_call 8; refine (nsign_any _ _ _ _ (by omega) (Nv.below B14)).mono ?_; rintro e w115 ⟨rfl, hb115⟩; have B15 := chain2 B14 hb115; rw [HS3.out])
      | (have gk := B13; go_at_call 8; refine (nsign_any _ _ _ _ (by omega) (Na.below B13)).mono ?_; rintro e w114 ⟨rfl, hb114⟩; have B14 := chain2 B13 hb114; rw [HS2.out])
      | (have gk := B12; go_at_call 8; refine (nsign_any _ _ _ _ (by omega) (Nm.below B12)).mono ?_; rintro e w113 ⟨rfl, hb113⟩; have B13 := chain2 B12 hb113; rw [HS1.out])
      | (have gk := B11; go_at_call 13; refine (cmp_any _ _ _ _ _ _ _ n110 n111).mono ?_; rintro e w112 ⟨rfl, hb112⟩; have B12 := chain2 B11 hb112; rw [E4.out])
      | (have gk := B10; go_at_call 12; refine (nabs_any _ _ _ _ (by omega) (Nb.below B10)).mono ?_; rintro e w111 ⟨v111, rfl, n111, hb111⟩; have B11 := chain2 B10 hb111; have n110 := n110.below hb111)
      | (have gk := B9; go_at_call 12; refine (nabs_any _ _ _ _ (by omega) (Nv.below B9)).mono ?_; rintro e w110 ⟨v110, rfl, n110, hb110⟩; have B10 := chain2 B9 hb110)
      | (have gk := B8; go_at_call 13; refine (cmp_any _ _ _ _ _ _ _ n107 n108).mono ?_; rintro e w109 ⟨rfl, hb109⟩; have B9 := chain2 B8 hb109; rw [E3.out])
      | (have gk := B7; go_at_call 12; refine (nabs_any _ _ _ _ (by omega) (Nb.below B7)).mono ?_; rintro e w108 ⟨v108, rfl, n108, hb108⟩; have B8 := chain2 B7 hb108; have n107 := n107.below hb108)
      | (have gk := B6; go_at_call 12; refine (nabs_any _ _ _ _ (by omega) (Nm.below B6)).mono ?_; rintro e w107 ⟨v107, rfl, n107, hb107⟩; have B7 := chain2 B6 hb107)
      | (have gk := B5; go_at_call 11; refine (ncmp_any _ _ _ _ _ _ _ (by omega) (by omega) n105 (Na.below B5)).mono ?_; rintro e w106 ⟨rfl, hb106⟩; have B6 := chain2 B5 hb106; rw [E2.out])
      | (have gk := B4; go_at_call 10; refine (nadd_any _ _ _ _ _ _ _ (by omega) (by omega) n104 (Nv.below B4)).mono ?_; rintro e w105 ⟨v105, rfl, n105, hb105⟩; have B5 := chain2 B4 hb105)
      | (have gk := B3; go_at_call 9; refine (nmul_any _ _ _ _ _ _ _ (by omega) (by omega) (Nu.below B3) (Nb.below B3)).mono ?_; rintro e w104 ⟨v104, rfl, n104, hb104⟩; have B4 := chain2 B3 hb104)
      | (have gk := B2; go_at_call 11; refine (ncmp_any _ _ _ _ _ _ _ (by omega) (by omega) n102 (Na.below B2)).mono ?_; rintro e w103 ⟨rfl, hb103⟩; have B3 := chain2 B2 hb103; rw [E1.out])
      | (have gk := B1; go_at_call 10; refine (nadd_any _ _ _ _ _ _ _ (by omega) (by omega) n101 (Nm.below B1)).mono ?_; rintro e w102 ⟨v102, rfl, n102, hb102⟩; have B2 := chain2 B1 hb102)
      | (have gk := B0; go_at_call 9; refine (nmul_any _ _ _ _ _ _ _ (by omega) (by omega) (Nq.below B0) (Nb.below B0)).mono ?_; rintro e w101 ⟨v101, rfl, n101, hb101⟩; have B1 := chain2 B0 hb101))
      have CF := chain2 CE B16
      clear B0 B1 B2 B3 B4 B5 B6 B7 B8 B9 B10 B11 B12 B13 B14 B15 B16 hb101 hb102 hb103 hb104 hb105 hb106 hb107 hb108 hb109 hb110 hb111 hb112 hb113 hb114 hb115 hb116
      go_wp2
      go_ret
      exact ⟨rfl, CF⟩
  · have hb : b1 = false ∨ b1 = true ∧ b2 = false := by
      cases b1 <;> cases b2 <;> simp at hall ⊢
    clear hall F1 F2 c1 d1 p1 r1 q1 s1 c2 d2 p2 r2 q2 s2 hb2
    rcases hb with rfl | ⟨rfl, rfl⟩
    all_goals
      go_wp2
      go_ret
      exact ⟨rfl, g1⟩
end Go.Proofs.Ytciecncdejlkkaa
