/- NumSums: what the call answers. -/
import Derived.Test.YtcpojpgmgkakeacDoorNNumber
import Derived.Test.YtcpojpgmgkakeacDoorNLong
import Derived.Test.YtcpojpgmgkakeacDoorNCmp
import Derived.Test.YtcpojpgmgkakeacDoorNMul
import Derived.Test.YtcpojpgmgkakeacDoorNText
import Derived.Test.YtcpojpgmgkakeacDoorSText
namespace Go.Proofs.YtcpojpgmgkakeacDoor
open Go.RowKit
set_option linter.unusedVariables false
set_option maxRecDepth 100000
set_option linter.unusedSimpArgs false
attribute [local go_sem ↓] Go.wp_at_zero Go.wp_at_succ

theorem keepY {W X : World} {p q r s : Nat} {a b c d e f g i : Value} (h1 : W.cell? ⟨p, 0, none⟩ = some a) (h2 : W.cell? ⟨p, 1, none⟩ = some b) (h3 : W.cell? ⟨q, 0, none⟩ = some c) (h4 : W.cell? ⟨q, 1, none⟩ = some d) (h5 : W.cell? ⟨r, 0, none⟩ = some e) (h6 : W.cell? ⟨r, 1, none⟩ = some f) (h7 : W.cell? ⟨s, 0, none⟩ = some g) (h8 : W.cell? ⟨s, 1, none⟩ = some i) (h : Below W.heap.size W X) :
    X.cell? ⟨p, 0, none⟩ = some a ∧ X.cell? ⟨p, 1, none⟩ = some b ∧ X.cell? ⟨q, 0, none⟩ = some c ∧ X.cell? ⟨q, 1, none⟩ = some d ∧ X.cell? ⟨r, 0, none⟩ = some e ∧ X.cell? ⟨r, 1, none⟩ = some f ∧ X.cell? ⟨s, 0, none⟩ = some g ∧ X.cell? ⟨s, 1, none⟩ = some i := ⟨kc h h1, kc h h2, kc h h3, kc h h4, kc h h5, kc h h6, kc h h7, kc h h8⟩
set_option maxRecDepth 100000 in
set_option maxHeartbeats 4000000 in
theorem nsums_any (x y : ByteArray) (w : World) (htab : Tab w) :
    Calls Tryd.prog 3 #[.string x, .string y] w fun e w' => e = .returned (.bool true) ∧ Below w.heap.size w w' := by
  have hb0 : Below w.heap.size w (w.alloc (Obj.cells #[.string x, .string y] 9)) := (Below.refl _ _).alloc (Nat.le_refl _) _
  go_enter Tryd.func3, Tryd.ntmps3
  go_wp2_with fail
  refine (long2_any _ w.heap.size 2 [x, y] (by omega) ?_).mono ?_
  · intro k hk
    match k, hk with
    | 0, _ => simp [go_sem, sg]
    | 1, _ => simp [go_sem, sg]
  rintro e w1 ⟨h | ⟨h, hsz⟩, rfl⟩
  · rw [h]
    go_wp2
    go_ret
    exact ⟨rfl, hb0⟩
  rw [h]
  have hx := hsz 0 (by omega)
  have hy := hsz 1 (by omega)
  simp only [sg, List.getD_cons_zero, List.getD_cons_succ] at hx hy
  clear hsz h
  generalize w.alloc (Obj.cells #[.string x, .string y] 9) = w1 at *
  go_wp2_with fail
  refine (number2_any x _ (by omega)).mono ?_
  rintro e u1 ⟨⟨aa, la, ca, ar1, lr1, cr1, n1, b1, rfl, f1⟩, hb1⟩
  have F1 := hid f1
  clear f1
  go_wp2_with fail
  refine (number2_any y _ (by omega)).mono ?_
  rintro e u2 ⟨⟨ab, lb, cb, ar2, lr2, cr2, n2, b2, rfl, f2⟩, hb2⟩
  have F2 := hid f2
  clear f2
  have c1 := boxed2 hb1 (Obj.cells #[Value.slice aa la ca, Value.bool n1] 28) (Obj.cells #[Value.bool n1, Value.slice ar1 lr1 cr1] 33)
  have c2 := boxed2 hb2 (Obj.cells #[Value.slice ab lb cb, Value.bool n2] 28) (Obj.cells #[Value.bool n2, Value.slice ar2 lr2 cr2] 33)
  have d1 := boxed2 (Below.refl u1.heap.size u1) (Obj.cells #[Value.slice aa la ca, Value.bool n1] 28) (Obj.cells #[Value.bool n1, Value.slice ar1 lr1 cr1] 33)
  have d2 := boxed2 (Below.refl u2.heap.size u2) (Obj.cells #[Value.slice ab lb cb, Value.bool n2] 28) (Obj.cells #[Value.bool n2, Value.slice ar2 lr2 cr2] 33)
  have p1 := boxed2_first u1 (Obj.cells #[Value.slice aa la ca, Value.bool n1] 28) (Obj.cells #[Value.bool n1, Value.slice ar1 lr1 cr1] 33)
  have r1 := boxed2_second u1 (Obj.cells #[Value.slice aa la ca, Value.bool n1] 28) (Obj.cells #[Value.bool n1, Value.slice ar1 lr1 cr1] 33)
  have p2 := boxed2_first u2 (Obj.cells #[Value.slice ab lb cb, Value.bool n2] 28) (Obj.cells #[Value.bool n2, Value.slice ar2 lr2 cr2] 33)
  have r2 := boxed2_second u2 (Obj.cells #[Value.slice ab lb cb, Value.bool n2] 28) (Obj.cells #[Value.bool n2, Value.slice ar2 lr2 cr2] 33)
  clear hb1
  generalize (u1.alloc (Obj.cells #[Value.slice aa la ca, Value.bool n1] 28)).alloc (Obj.cells #[Value.bool n1, Value.slice ar1 lr1 cr1] 33) = W1 at *
  have g1 : Below w.heap.size w ((u2.alloc (Obj.cells #[Value.slice ab lb cb, Value.bool n2] 28)).alloc (Obj.cells #[Value.bool n2, Value.slice ar2 lr2 cr2] 33)) := chain2 (chain2 hb0 c1) c2
  have q1 := (box_below c2 p1 (lt_of_block p1))
  have s1 := (box_below c2 r1 (lt_of_block r1))
  have q2 := p2
  have s2 := r2
  have hall : b1 = true ∧ b2 = true ∨ b1 = false ∨ b2 = false := by
    cases b1 <;> cases b2 <;> simp
  rcases hall with ⟨rfl, rfl⟩ | hall
  · obtain ⟨X, tx, e1, na1, ra1⟩ := F1.out rfl
    obtain ⟨Y, ty, e2, na2, ra2⟩ := F2.out rfl
    have Na : NumIs ((u2.alloc (Obj.cells #[Value.slice ab lb cb, Value.bool n2] 28)).alloc (Obj.cells #[Value.bool n2, Value.slice ar2 lr2 cr2] 33)) (Value.agg #[Value.slice aa la ca, Value.bool n1]) X 60 := ⟨_, _, _, by rw [e1], ((na1.below d1).below c2).mono (show _ ≤ 60 by omega)⟩
    have Ma : RNumIs ((u2.alloc (Obj.cells #[Value.slice ab lb cb, Value.bool n2] 28)).alloc (Obj.cells #[Value.bool n2, Value.slice ar2 lr2 cr2] 33)) (Value.agg #[Value.bool n1, Value.slice ar1 lr1 cr1]) X 60 := ⟨_, _, _, by rw [e1], ((ra1.below d1).below c2).mono (show _ ≤ 60 by omega)⟩
    have TX := hid tx
    have H1 := hid e1
    have Nb : NumIs ((u2.alloc (Obj.cells #[Value.slice ab lb cb, Value.bool n2] 28)).alloc (Obj.cells #[Value.bool n2, Value.slice ar2 lr2 cr2] 33)) (Value.agg #[Value.slice ab lb cb, Value.bool n2]) Y 60 := ⟨_, _, _, by rw [e2], (na2.below d2).mono (show _ ≤ 60 by omega)⟩
    have Mb : RNumIs ((u2.alloc (Obj.cells #[Value.slice ab lb cb, Value.bool n2] 28)).alloc (Obj.cells #[Value.bool n2, Value.slice ar2 lr2 cr2] 33)) (Value.agg #[Value.bool n2, Value.slice ar2 lr2 cr2]) Y 60 := ⟨_, _, _, by rw [e2], (ra2.below d2).mono (show _ ≤ 60 by omega)⟩
    have TY := hid ty
    have H2 := hid e2
    have v1 := box_below hb2 p1 (lt_of_block p1)
    have m1 := two_cell0 v1
    have o1 := two_cell1 v1
    have l1 := lt_of_block v1
    clear v1
    clear F1 F2 c1 c2 d1 d2 hb2 e1 e2 na1 na2 ra1 ra2 tx ty p1 p2 r1 r2
    go_wp2
    generalize ((u2.alloc (Obj.cells #[Value.slice ab lb cb, Value.bool n2] 28)).alloc (Obj.cells #[Value.bool n2, Value.slice ar2 lr2 cr2] 33)) = W3 at *
    have t1 := two_cell0 q1
    have t2 := two_cell1 q1
    have t3 := two_cell0 q2
    have t4 := two_cell1 q2
    have t5 := two_cell0 s1
    have t6 := two_cell1 s1
    have t7 := two_cell0 s2
    have t8 := two_cell1 s2
    clear m1 o1 l1 s1 s2 q1 q2
    have tabE := htab.below g1
    try simp only [List.append_eq, List.cons_append, List.nil_append]
    have B0 : Below W3.heap.size W3 W3.drew := (Below.refl _ _).drew
    go_region_held3 (fun w' => w'.cell? ⟨u1.heap.size, 0, none⟩ = some (Value.slice aa la ca) ∧ w'.cell? ⟨u1.heap.size, 1, none⟩ = some (Value.bool n1) ∧ w'.cell? ⟨u2.heap.size, 0, none⟩ = some (Value.slice ab lb cb) ∧ w'.cell? ⟨u2.heap.size, 1, none⟩ = some (Value.bool n2) ∧ w'.cell? ⟨u1.heap.size + 1, 0, none⟩ = some (Value.bool n1) ∧ w'.cell? ⟨u1.heap.size + 1, 1, none⟩ = some (Value.slice ar1 lr1 cr1) ∧ w'.cell? ⟨u2.heap.size + 1, 0, none⟩ = some (Value.bool n2) ∧ w'.cell? ⟨u2.heap.size + 1, 1, none⟩ = some (Value.slice ar2 lr2 cr2)) ((refine keepY t1 t2 t3 t4 t5 t6 t7 t8 ?_; first | exact B0 | exact B1 | exact B2 | exact B3 | exact B4 | exact B5 | exact B6 | exact B7 | exact B8 | exact B9 | exact B10 | exact B11 | exact B12 | exact B13 | exact B14 | exact B15 | exact B16)) (first
      | (have gk := B15; go_at_call 10; refine (ntext_any _ _ _ _ (by omega) (Nb.below B15) (tabE.below B15)).mono ?_; rintro e w116 ⟨⟨s116, rfl, h116⟩, hb116⟩; have B16 := chain2 B15 hb116; rw [h116.inj TY.out])
      | (have gk := B14; go_at_call 10; refine (ntext_any _ _ _ _ (by omega) (Na.below B14) (tabE.below B14)).mono ?_; rintro e w115 ⟨⟨s115, rfl, h115⟩, hb115⟩; have B15 := chain2 B14 hb115; rw [h115.inj TX.out])
      | (have gk := B13; go_at_call 18; refine (scmp_any _ _ _ _ _ _ _ (by omega) (by omega) (Ma.below B13) (Mb.below B13)).mono ?_; rintro e w114 ⟨rfl, hb114⟩; have B14 := chain2 B13 hb114)
      | (have gk := B12; go_at_call 17; refine (ncmp_any _ _ _ _ _ _ _ (by omega) (by omega) (Na.below B12) (Nb.below B12)).mono ?_; rintro e w113 ⟨rfl, hb113⟩; have B13 := chain2 B12 hb113)
      | (have gk := B11; go_at_call 12; refine (stext_any _ _ _ _ (by omega) n111).mono ?_; rintro e w112 ⟨⟨s112, rfl, h112⟩, hb112⟩; have B12 := chain2 B11 hb112; rw [h112.inj h110])
      | (have gk := B10; go_at_call 16; refine (smul_any _ _ _ _ _ _ _ (by omega) (by omega) (Ma.below B10) (Mb.below B10)).mono ?_; rintro e w111 ⟨v111, rfl, n111, hb111⟩; have B11 := chain2 B10 hb111)
      | (have gk := B9; go_at_call 10; refine (ntext_any _ _ _ _ (by omega) n109 (tabE.below B9)).mono ?_; rintro e w110 ⟨⟨s110, rfl, h110⟩, hb110⟩; have B10 := chain2 B9 hb110)
      | (have gk := B8; go_at_call 15; refine (nmul_any _ _ _ _ _ _ _ (by omega) (by omega) (Na.below B8) (Nb.below B8)).mono ?_; rintro e w109 ⟨v109, rfl, n109, hb109⟩; have B9 := chain2 B8 hb109)
      | (have gk := B7; go_at_call 12; refine (stext_any _ _ _ _ (by omega) n107).mono ?_; rintro e w108 ⟨⟨s108, rfl, h108⟩, hb108⟩; have B8 := chain2 B7 hb108; rw [h108.inj h106])
      | (have gk := B6; go_at_call 14; refine (ssub_any _ _ _ _ _ _ _ (by omega) (by omega) (Ma.below B6) (Mb.below B6)).mono ?_; rintro e w107 ⟨v107, rfl, n107, hb107⟩; have B7 := chain2 B6 hb107)
      | (have gk := B5; go_at_call 10; refine (ntext_any _ _ _ _ (by omega) n105 (tabE.below B5)).mono ?_; rintro e w106 ⟨⟨s106, rfl, h106⟩, hb106⟩; have B6 := chain2 B5 hb106)
      | (have gk := B4; go_at_call 13; refine (nsub_any _ _ _ _ _ _ _ (by omega) (by omega) (Na.below B4) (Nb.below B4)).mono ?_; rintro e w105 ⟨v105, rfl, n105, hb105⟩; have B5 := chain2 B4 hb105)
      | (have gk := B3; go_at_call 12; refine (stext_any _ _ _ _ (by omega) n103).mono ?_; rintro e w104 ⟨⟨s104, rfl, h104⟩, hb104⟩; have B4 := chain2 B3 hb104; rw [h104.inj h102])
      | (have gk := B2; go_at_call 11; refine (sadd_any _ _ _ _ _ _ _ (by omega) (by omega) (Ma.below B2) (Mb.below B2)).mono ?_; rintro e w103 ⟨v103, rfl, n103, hb103⟩; have B3 := chain2 B2 hb103)
      | (have gk := B1; go_at_call 10; refine (ntext_any _ _ _ _ (by omega) n101 (tabE.below B1)).mono ?_; rintro e w102 ⟨⟨s102, rfl, h102⟩, hb102⟩; have B2 := chain2 B1 hb102)
      | (have gk := B0; go_at_call 9; refine (nadd_any _ _ _ _ _ _ _ (by omega) (by omega) (Na.below B0) (Nb.below B0)).mono ?_; rintro e w101 ⟨v101, rfl, n101, hb101⟩; have B1 := chain2 B0 hb101))
    all_goals
      have g9 := chain2 g1 B16
      clear B0 B1 B2 B3 B4 B5 B6 B7 B8 B9 B10 B11 B12 B13 B14 B15 B16 hb101 hb102 hb103 hb104 hb105 hb106 hb107 hb108 hb109 hb110 hb111 hb112 hb113 hb114 hb115 hb116
      go_wp2
      go_ret
      exact ⟨rfl, g9⟩
  · have hb : b1 = false ∨ b1 = true ∧ b2 = false := by
      cases b1 <;> cases b2 <;> simp at hall ⊢
    clear hall F1 F2 c1 d1 p1 r1 q1 s1 c2 d2 p2 r2 q2 s2 hb2
    rcases hb with rfl | ⟨rfl, rfl⟩
    all_goals
      go_wp2
      go_ret
      exact ⟨rfl, g1⟩
end Go.Proofs.YtcpojpgmgkakeacDoor
