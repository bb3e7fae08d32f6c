/- NumLaws: what the call answers. -/
import Derived.Test.YtcpojpgmgkakeacDoorNNumber
import Derived.Test.YtcpojpgmgkakeacDoorNLong
import Derived.Test.YtcpojpgmgkakeacDoorNCmp
import Derived.Test.YtcpojpgmgkakeacDoorNMul
import Derived.Test.YtcpojpgmgkakeacDoorNText
namespace Go.Proofs.YtcpojpgmgkakeacDoor
open Go.RowKit
set_option linter.unusedVariables false
set_option maxRecDepth 100000
set_option linter.unusedSimpArgs false
attribute [local go_sem ↓] Go.wp_at_zero Go.wp_at_succ

theorem keepZ {W X : World} {p q r : Nat} {a b c d e f : Value} (h1 : W.cell? ⟨p, 0, none⟩ = some a) (h2 : W.cell? ⟨p, 1, none⟩ = some b) (h3 : W.cell? ⟨q, 0, none⟩ = some c) (h4 : W.cell? ⟨q, 1, none⟩ = some d) (h5 : W.cell? ⟨r, 0, none⟩ = some e) (h6 : W.cell? ⟨r, 1, none⟩ = some f) (h : Below W.heap.size W X) :
    X.cell? ⟨p, 0, none⟩ = some a ∧ X.cell? ⟨p, 1, none⟩ = some b ∧ X.cell? ⟨q, 0, none⟩ = some c ∧ X.cell? ⟨q, 1, none⟩ = some d ∧ X.cell? ⟨r, 0, none⟩ = some e ∧ X.cell? ⟨r, 1, none⟩ = some f := ⟨kc h h1, kc h h2, kc h h3, kc h h4, kc h h5, kc h h6⟩
theorem cmpZ_eq {a b : Int} (h : a = b) : cmpZ a b = 0 := by subst h; simp [cmpZ]
theorem signZ_mul (x y : Int) : signZ (x * y) = signZ x * signZ y := by
  rcases Int.lt_trichotomy x 0 with hx | hx | hx
  · rcases Int.lt_trichotomy y 0 with hy | hy | hy
    · have := Int.mul_pos_of_neg_of_neg hx hy
      rw [show signZ x = -1 by simp [signZ, hx], show signZ y = -1 by simp [signZ, hy]]; unfold signZ; (repeat' split) <;> omega
    · subst hy; simp [signZ]
    · have := Int.mul_neg_of_neg_of_pos hx hy
      rw [show signZ x = -1 by simp [signZ, hx], show signZ y = 1 by unfold signZ; (repeat' split) <;> omega]; unfold signZ; (repeat' split) <;> omega
  · subst hx; simp [signZ]
  · rcases Int.lt_trichotomy y 0 with hy | hy | hy
    · have := Int.mul_neg_of_pos_of_neg hx hy
      rw [show signZ x = 1 by unfold signZ; (repeat' split) <;> omega, show signZ y = -1 by simp [signZ, hy]]; unfold signZ; (repeat' split) <;> omega
    · subst hy; simp [signZ]
    · have := Int.mul_pos hx hy
      rw [show signZ x = 1 by unfold signZ; (repeat' split) <;> omega, show signZ y = 1 by unfold signZ; (repeat' split) <;> omega]; unfold signZ; (repeat' split) <;> omega
theorem signZ_wrap (x y : Int) : IntKind.i64.wrap (signZ x * signZ y) = signZ x * signZ y := by
  rw [← signZ_mul]
  have h : -1 ≤ signZ (x * y) ∧ signZ (x * y) ≤ 1 := by unfold signZ; (repeat' split) <;> omega
  generalize signZ (x * y) = q at *
  simp [IntKind.wrap, IntKind.bits, IntKind.signed]; omega
theorem signZ_wrap64 (x y : Int) : wrap64 (signZ x * signZ y) = signZ x * signZ y := by
  rw [← signZ_mul]
  have h : -1 ≤ signZ (x * y) ∧ signZ (x * y) ≤ 1 := by unfold signZ; (repeat' split) <;> omega
  generalize signZ (x * y) = q at *
  rw [wrap64]; omega
set_option maxRecDepth 100000 in
set_option maxHeartbeats 4000000 in
theorem nlaws_any (x y z : ByteArray) (w : World) (htab : Tab w) :
    Calls Tryd.prog 5 #[.string x, .string y, .string z] w fun e w' => e = .returned (.bool true) ∧ Below w.heap.size w w' := by
  have hb0 : Below w.heap.size w (w.alloc (Obj.cells #[.string x, .string y, .string z] 9)) := (Below.refl _ _).alloc (Nat.le_refl _) _
  go_enter Tryd.func5, Tryd.ntmps5
  go_wp2_with fail
  refine (long2_any _ w.heap.size 3 [x, y, z] (by omega) ?_).mono ?_
  · intro k hk
    match k, hk with
    | 0, _ => simp [go_sem, sg]
    | 1, _ => simp [go_sem, sg]
    | 2, _ => simp [go_sem, sg]
  rintro e w1 ⟨h | ⟨h, hsz⟩, rfl⟩
  · rw [h]
    go_wp2
    go_ret
    exact ⟨rfl, hb0⟩
  rw [h]
  have hx := hsz 0 (by omega)
  have hy := hsz 1 (by omega)
  have hz := hsz 2 (by omega)
  simp only [sg, List.getD_cons_zero, List.getD_cons_succ] at hx hy hz
  clear hsz h
  generalize w.alloc (Obj.cells #[.string x, .string y, .string z] 9) = w1 at *
  go_wp2_with fail
  refine (number2_any x _ (by omega)).mono ?_
  rintro e u1 ⟨⟨aa, la, ca, ar1, lr1, cr1, n1, b1, rfl, f1⟩, hb1⟩
  have F1 := hid f1
  clear f1
  go_wp2_with fail
  refine (number2_any y _ (by omega)).mono ?_
  rintro e u2 ⟨⟨ab, lb, cb, ar2, lr2, cr2, n2, b2, rfl, f2⟩, hb2⟩
  have F2 := hid f2
  clear f2
  go_wp2_with fail
  refine (number2_any z _ (by omega)).mono ?_
  rintro e u3 ⟨⟨ac, lc, cc, ar3, lr3, cr3, n3, b3, rfl, f3⟩, hb3⟩
  have F3 := hid f3
  clear f3
  have c1 := boxed2 hb1 (Obj.cells #[Value.slice aa la ca, Value.bool n1] 28) (Obj.cells #[Value.bool n1, Value.slice ar1 lr1 cr1] 33)
  have c2 := boxed2 hb2 (Obj.cells #[Value.slice ab lb cb, Value.bool n2] 28) (Obj.cells #[Value.bool n2, Value.slice ar2 lr2 cr2] 33)
  have c3 := boxed2 hb3 (Obj.cells #[Value.slice ac lc cc, Value.bool n3] 28) (Obj.cells #[Value.bool n3, Value.slice ar3 lr3 cr3] 33)
  have d1 := boxed2 (Below.refl u1.heap.size u1) (Obj.cells #[Value.slice aa la ca, Value.bool n1] 28) (Obj.cells #[Value.bool n1, Value.slice ar1 lr1 cr1] 33)
  have d2 := boxed2 (Below.refl u2.heap.size u2) (Obj.cells #[Value.slice ab lb cb, Value.bool n2] 28) (Obj.cells #[Value.bool n2, Value.slice ar2 lr2 cr2] 33)
  have d3 := boxed2 (Below.refl u3.heap.size u3) (Obj.cells #[Value.slice ac lc cc, Value.bool n3] 28) (Obj.cells #[Value.bool n3, Value.slice ar3 lr3 cr3] 33)
  have p1 := boxed2_first u1 (Obj.cells #[Value.slice aa la ca, Value.bool n1] 28) (Obj.cells #[Value.bool n1, Value.slice ar1 lr1 cr1] 33)
  have r1 := boxed2_second u1 (Obj.cells #[Value.slice aa la ca, Value.bool n1] 28) (Obj.cells #[Value.bool n1, Value.slice ar1 lr1 cr1] 33)
  have p2 := boxed2_first u2 (Obj.cells #[Value.slice ab lb cb, Value.bool n2] 28) (Obj.cells #[Value.bool n2, Value.slice ar2 lr2 cr2] 33)
  have r2 := boxed2_second u2 (Obj.cells #[Value.slice ab lb cb, Value.bool n2] 28) (Obj.cells #[Value.bool n2, Value.slice ar2 lr2 cr2] 33)
  have p3 := boxed2_first u3 (Obj.cells #[Value.slice ac lc cc, Value.bool n3] 28) (Obj.cells #[Value.bool n3, Value.slice ar3 lr3 cr3] 33)
  have r3 := boxed2_second u3 (Obj.cells #[Value.slice ac lc cc, Value.bool n3] 28) (Obj.cells #[Value.bool n3, Value.slice ar3 lr3 cr3] 33)
  clear hb1
  generalize (u1.alloc (Obj.cells #[Value.slice aa la ca, Value.bool n1] 28)).alloc (Obj.cells #[Value.bool n1, Value.slice ar1 lr1 cr1] 33) = W1 at *
  generalize (u2.alloc (Obj.cells #[Value.slice ab lb cb, Value.bool n2] 28)).alloc (Obj.cells #[Value.bool n2, Value.slice ar2 lr2 cr2] 33) = W2 at *
  have g1 : Below w.heap.size w ((u3.alloc (Obj.cells #[Value.slice ac lc cc, Value.bool n3] 28)).alloc (Obj.cells #[Value.bool n3, Value.slice ar3 lr3 cr3] 33)) := chain2 (chain2 (chain2 hb0 c1) c2) c3
  have q1 := (box_below c3 (box_below c2 p1 (lt_of_block p1)) (lt_of_block (box_below c2 p1 (lt_of_block p1))))
  have s1 := (box_below c3 (box_below c2 r1 (lt_of_block r1)) (lt_of_block (box_below c2 r1 (lt_of_block r1))))
  have q2 := (box_below c3 p2 (lt_of_block p2))
  have s2 := (box_below c3 r2 (lt_of_block r2))
  have q3 := p3
  have s3 := r3
  have hall : b1 = true ∧ b2 = true ∧ b3 = true ∨ b1 = false ∨ b2 = false ∨ b3 = false := by
    cases b1 <;> cases b2 <;> cases b3 <;> simp
  rcases hall with ⟨rfl, rfl, rfl⟩ | hall
  · obtain ⟨X, tx, e1, na1, ra1⟩ := F1.out rfl
    obtain ⟨Y, ty, e2, na2, ra2⟩ := F2.out rfl
    obtain ⟨Z, tz, e3, na3, ra3⟩ := F3.out rfl
    have Na : NumIs ((u3.alloc (Obj.cells #[Value.slice ac lc cc, Value.bool n3] 28)).alloc (Obj.cells #[Value.bool n3, Value.slice ar3 lr3 cr3] 33)) (Value.agg #[Value.slice aa la ca, Value.bool n1]) X 60 := ⟨_, _, _, by rw [e1], (((na1.below d1).below c2).below c3).mono (show _ ≤ 60 by omega)⟩
    have TX := hid tx
    have H1 := hid e1
    have Nb : NumIs ((u3.alloc (Obj.cells #[Value.slice ac lc cc, Value.bool n3] 28)).alloc (Obj.cells #[Value.bool n3, Value.slice ar3 lr3 cr3] 33)) (Value.agg #[Value.slice ab lb cb, Value.bool n2]) Y 60 := ⟨_, _, _, by rw [e2], ((na2.below d2).below c3).mono (show _ ≤ 60 by omega)⟩
    have TY := hid ty
    have H2 := hid e2
    have Nc : NumIs ((u3.alloc (Obj.cells #[Value.slice ac lc cc, Value.bool n3] 28)).alloc (Obj.cells #[Value.bool n3, Value.slice ar3 lr3 cr3] 33)) (Value.agg #[Value.slice ac lc cc, Value.bool n3]) Z 60 := ⟨_, _, _, by rw [e3], (na3.below d3).mono (show _ ≤ 60 by omega)⟩
    have TZ := hid tz
    have H3 := hid e3
    have v1 := box_below hb3 (box_below c2 p1 (lt_of_block p1)) (lt_of_block (box_below c2 p1 (lt_of_block p1)))
    have m1 := two_cell0 v1
    have o1 := two_cell1 v1
    have l1 := lt_of_block v1
    clear v1
    have v2 := box_below hb3 p2 (lt_of_block p2)
    have m2 := two_cell0 v2
    have o2 := two_cell1 v2
    have l2 := lt_of_block v2
    clear v2
    clear F1 F2 F3 c1 c2 c3 d1 d2 d3 hb2 hb3 e1 e2 e3 na1 na2 na3 ra1 ra2 ra3 tx ty tz p1 p2 p3 r1 r2 r3
    have E1 := hid (cmpZ_eq (show X + Y - Y = X by omega))
    have E2 := hid (show signZ (X - X) = 0 by rw [Int.sub_self]; rfl)
    have E3 := hid (cmpZ_eq (show X * (Y + Z) = X * Y + X * Z from Int.mul_add X Y Z))
    have E4 := hid (cmpZ_eq (Int.mul_comm X Y))
    have E5 := hid (show ZTx x (- -X) by rw [Int.neg_neg]; exact TX.out)
    have E6 := hid (signZ_mul X Y)
    have E7 := hid (cmpZ_eq (show X + Y + Z = Z + Y + X by omega))
    have hwr := signZ_wrap X Y
    have hws := signZ_wrap64 X Y
    go_wp2
    generalize ((u3.alloc (Obj.cells #[Value.slice ac lc cc, Value.bool n3] 28)).alloc (Obj.cells #[Value.bool n3, Value.slice ar3 lr3 cr3] 33)) = W3 at *
    have t1 := two_cell0 q1
    have t2 := two_cell1 q1
    have t3 := two_cell0 q2
    have t4 := two_cell1 q2
    have t5 := two_cell0 q3
    have t6 := two_cell1 q3
    clear m1 m2 o1 o2 l1 l2 s1 s2 s3 q1 q2 q3
    have tabE := htab.below g1
    obtain ⟨S1, hs1⟩ : ∃ q, signZ X = q := ⟨_, rfl⟩
    obtain ⟨S2, hs2⟩ : ∃ q, signZ Y = q := ⟨_, rfl⟩
    rw [hs1, hs2] at E6 hwr hws
    have HS1 := hid hs1
    have HS2 := hid hs2
    clear hs1 hs2
    simp only [List.append_eq, List.cons_append, List.nil_append]
    have B0 : Below W3.heap.size W3 W3.drew := (Below.refl _ _).drew
    go_region_held3 (fun w' => w'.cell? ⟨u1.heap.size, 0, none⟩ = some (Value.slice aa la ca) ∧ w'.cell? ⟨u1.heap.size, 1, none⟩ = some (Value.bool n1) ∧ w'.cell? ⟨u2.heap.size, 0, none⟩ = some (Value.slice ab lb cb) ∧ w'.cell? ⟨u2.heap.size, 1, none⟩ = some (Value.bool n2) ∧ w'.cell? ⟨u3.heap.size, 0, none⟩ = some (Value.slice ac lc cc) ∧ w'.cell? ⟨u3.heap.size, 1, none⟩ = some (Value.bool n3)) ((refine keepZ t1 t2 t3 t4 t5 t6 ?_; first | exact B0 | exact B1 | exact B2 | exact B3 | exact B4 | exact B5 | exact B6 | exact B7 | exact B8 | exact B9 | exact B10 | exact B11 | exact B12 | exact B13 | exact B14 | exact B15 | exact B16 | exact B17 | exact B18 | exact B19 | exact B20 | exact B21 | exact B22 | exact B23 | exact B24 | exact B25 | exact B26)) (first
      | (have gk := B25; go_at_call 17; refine (ncmp_any _ _ _ _ _ _ _ (by omega) (by omega) n123 n125).mono ?_; rintro e w126 ⟨rfl, hb126⟩; have B26 := chain2 B25 hb126; rw [E7.out])
      | (have gk := B24; go_at_call 9; refine (nadd_any _ _ _ _ _ _ _ (by omega) (by omega) n124 (Na.below B24)).mono ?_; rintro e w125 ⟨v125, rfl, n125, hb125⟩; have B25 := chain2 B24 hb125; have n123 := n123.below hb125)
      | (have gk := B23; go_at_call 9; refine (nadd_any _ _ _ _ _ _ _ (by omega) (by omega) (Nc.below B23) (Nb.below B23)).mono ?_; rintro e w124 ⟨v124, rfl, n124, hb124⟩; have B24 := chain2 B23 hb124; have n123 := n123.below hb124)
      | (have gk := B22; go_at_call 9; refine (nadd_any _ _ _ _ _ _ _ (by omega) (by omega) n122 (Nc.below B22)).mono ?_; rintro e w123 ⟨v123, rfl, n123, hb123⟩; have B23 := chain2 B22 hb123)
      | (have gk := B21; go_at_call 9; refine (nadd_any _ _ _ _ _ _ _ (by omega) (by omega) (Na.below B21) (Nb.below B21)).mono ?_; rintro e w122 ⟨v122, rfl, n122, hb122⟩; have B22 := chain2 B21 hb122)
      | (have gk := B20; go_at_call 23; refine (nsign_any _ _ _ _ (by omega) (Nb.below B20)).mono ?_; rintro e w121 ⟨rfl, hb121⟩; have B21 := chain2 B20 hb121; rw [HS2.out])
      | (have gk := B19; go_at_call 23; refine (nsign_any _ _ _ _ (by omega) (Na.below B19)).mono ?_; rintro e w120 ⟨rfl, hb120⟩; have B20 := chain2 B19 hb120; rw [HS1.out])
      | (have gk := B18; go_at_call 23; refine (nsign_any _ _ _ _ (by omega) n118).mono ?_; rintro e w119 ⟨rfl, hb119⟩; have B19 := chain2 B18 hb119; rw [E6.out])
      | (have gk := B17; go_at_call 15; refine (nmul_any _ _ _ _ _ _ _ (by omega) (by omega) (Na.below B17) (Nb.below B17)).mono ?_; rintro e w118 ⟨v118, rfl, n118, hb118⟩; have B18 := chain2 B17 hb118)
      | (have gk := B16; go_at_call 10; refine (ntext_any _ _ _ _ (by omega) n116 (tabE.below B16)).mono ?_; rintro e w117 ⟨⟨s117, rfl, h117⟩, hb117⟩; have B17 := chain2 B16 hb117; rw [h117.inj E5.out])
      | (have gk := B15; go_at_call 24; refine (nneg_any _ _ _ _ (by omega) n115).mono ?_; rintro e w116 ⟨v116, rfl, n116, hb116⟩; have B16 := chain2 B15 hb116)
      | (have gk := B14; go_at_call 24; refine (nneg_any _ _ _ _ (by omega) (Na.below B14)).mono ?_; rintro e w115 ⟨v115, rfl, n115, hb115⟩; have B15 := chain2 B14 hb115)
      | (have gk := B13; go_at_call 17; refine (ncmp_any _ _ _ _ _ _ _ (by omega) (by omega) n112 n113).mono ?_; rintro e w114 ⟨rfl, hb114⟩; have B14 := chain2 B13 hb114; rw [E4.out])
      | (have gk := B12; go_at_call 15; refine (nmul_any _ _ _ _ _ _ _ (by omega) (by omega) (Nb.below B12) (Na.below B12)).mono ?_; rintro e w113 ⟨v113, rfl, n113, hb113⟩; have B13 := chain2 B12 hb113; have n112 := n112.below hb113)
      | (have gk := B11; go_at_call 15; refine (nmul_any _ _ _ _ _ _ _ (by omega) (by omega) (Na.below B11) (Nb.below B11)).mono ?_; rintro e w112 ⟨v112, rfl, n112, hb112⟩; have B12 := chain2 B11 hb112)
      | (have gk := B10; go_at_call 17; refine (ncmp_any _ _ _ _ _ _ _ (by omega) (by omega) n107 n110).mono ?_; rintro e w111 ⟨rfl, hb111⟩; have B11 := chain2 B10 hb111; rw [E3.out])
      | (have gk := B9; go_at_call 9; refine (nadd_any _ _ _ _ _ _ _ (by omega) (by omega) n108 n109).mono ?_; rintro e w110 ⟨v110, rfl, n110, hb110⟩; have B10 := chain2 B9 hb110; have n107 := n107.below hb110)
      | (have gk := B8; go_at_call 15; refine (nmul_any _ _ _ _ _ _ _ (by omega) (by omega) (Na.below B8) (Nc.below B8)).mono ?_; rintro e w109 ⟨v109, rfl, n109, hb109⟩; have B9 := chain2 B8 hb109; have n107 := n107.below hb109; have n108 := n108.below hb109)
      | (have gk := B7; go_at_call 15; refine (nmul_any _ _ _ _ _ _ _ (by omega) (by omega) (Na.below B7) (Nb.below B7)).mono ?_; rintro e w108 ⟨v108, rfl, n108, hb108⟩; have B8 := chain2 B7 hb108; have n107 := n107.below hb108)
      | (have gk := B6; go_at_call 15; refine (nmul_any _ _ _ _ _ _ _ (by omega) (by omega) (Na.below B6) n106).mono ?_; rintro e w107 ⟨v107, rfl, n107, hb107⟩; have B7 := chain2 B6 hb107)
      | (have gk := B5; go_at_call 9; refine (nadd_any _ _ _ _ _ _ _ (by omega) (by omega) (Nb.below B5) (Nc.below B5)).mono ?_; rintro e w106 ⟨v106, rfl, n106, hb106⟩; have B6 := chain2 B5 hb106)
      | (have gk := B4; go_at_call 23; refine (nsign_any _ _ _ _ (by omega) n104).mono ?_; rintro e w105 ⟨rfl, hb105⟩; have B5 := chain2 B4 hb105; rw [E2.out])
      | (have gk := B3; go_at_call 13; refine (nsub_any _ _ _ _ _ _ _ (by omega) (by omega) (Na.below B3) (Na.below B3)).mono ?_; rintro e w104 ⟨v104, rfl, n104, hb104⟩; have B4 := chain2 B3 hb104)
      | (have gk := B2; go_at_call 17; refine (ncmp_any _ _ _ _ _ _ _ (by omega) (by omega) n102 (Na.below B2)).mono ?_; rintro e w103 ⟨rfl, hb103⟩; have B3 := chain2 B2 hb103; rw [E1.out])
      | (have gk := B1; go_at_call 13; refine (nsub_any _ _ _ _ _ _ _ (by omega) (by omega) n101 (Nb.below B1)).mono ?_; rintro e w102 ⟨v102, rfl, n102, hb102⟩; have B2 := chain2 B1 hb102)
      | (have gk := B0; go_at_call 9; refine (nadd_any _ _ _ _ _ _ _ (by omega) (by omega) (Na.below B0) (Nb.below B0)).mono ?_; rintro e w101 ⟨v101, rfl, n101, hb101⟩; have B1 := chain2 B0 hb101))
    all_goals
      have g9 := chain2 g1 B26
      clear B0 B1 B2 B3 B4 B5 B6 B7 B8 B9 B10 B11 B12 B13 B14 B15 B16 B17 B18 B19 B20 B21 B22 B23 B24 B25 B26 hb101 hb102 hb103 hb104 hb105 hb106 hb107 hb108 hb109 hb110 hb111 hb112 hb113 hb114 hb115 hb116 hb117 hb118 hb119 hb120 hb121 hb122 hb123 hb124 hb125 hb126
      go_wp2
      go_ret
      exact ⟨rfl, g9⟩
  · have hb : b1 = false ∨ b1 = true ∧ b2 = false ∨ b1 = true ∧ b2 = true ∧ b3 = false := by
      cases b1 <;> cases b2 <;> cases b3 <;> simp at hall ⊢
    clear hall F1 F2 F3 c1 d1 p1 r1 q1 s1 c2 d2 p2 r2 q2 s2 c3 d3 p3 r3 q3 s3 hb2 hb3
    rcases hb with rfl | ⟨rfl, rfl⟩ | ⟨rfl, rfl, rfl⟩
    all_goals
      go_wp2
      go_ret
      exact ⟨rfl, g1⟩
end Go.Proofs.YtcpojpgmgkakeacDoor
