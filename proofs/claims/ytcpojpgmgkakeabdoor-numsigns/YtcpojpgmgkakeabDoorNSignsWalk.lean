/- NumSigns: what the call answers. -/
import Derived.Test.YtcpojpgmgkakeabDoorNNumber
import Derived.Test.YtcpojpgmgkakeabDoorNLong
import Derived.Test.YtcpojpgmgkakeabDoorNCmp
import Derived.Test.YtcpojpgmgkakeabDoorNMul
import Derived.Test.YtcpojpgmgkakeabDoorNText
namespace Go.Proofs.YtcpojpgmgkakeabDoor
open Go.RowKit
set_option linter.unusedVariables false
set_option maxRecDepth 100000
set_option linter.unusedSimpArgs false
attribute [local go_sem ↓] Go.wp_at_zero Go.wp_at_succ

theorem keepZ {W X : World} {p q r : Nat} {a b c d e f : Value} (h1 : W.cell? ⟨p, 0, none⟩ = some a) (h2 : W.cell? ⟨p, 1, none⟩ = some b) (h3 : W.cell? ⟨q, 0, none⟩ = some c) (h4 : W.cell? ⟨q, 1, none⟩ = some d) (h5 : W.cell? ⟨r, 0, none⟩ = some e) (h6 : W.cell? ⟨r, 1, none⟩ = some f) (h : Below W.heap.size W X) :
    X.cell? ⟨p, 0, none⟩ = some a ∧ X.cell? ⟨p, 1, none⟩ = some b ∧ X.cell? ⟨q, 0, none⟩ = some c ∧ X.cell? ⟨q, 1, none⟩ = some d ∧ X.cell? ⟨r, 0, none⟩ = some e ∧ X.cell? ⟨r, 1, none⟩ = some f := ⟨kc h h1, kc h h2, kc h h3, kc h h4, kc h h5, kc h h6⟩
theorem signZ_neg (x : Int) : signZ (-x) = - signZ x := by unfold signZ; (repeat' split) <;> omega
theorem signZ_bd (x : Int) : -1 ≤ signZ x ∧ signZ x ≤ 1 := by unfold signZ; (repeat' split) <;> omega
theorem signZ_zero (x : Int) : signZ x = 0 ↔ x = 0 := by unfold signZ; (repeat' split) <;> omega
theorem signZ_lt (x : Int) : signZ x < 0 ↔ x < 0 := by unfold signZ; (repeat' split) <;> omega
theorem tl_48 : (⟨#[48]⟩ : ByteArray).toList = [48] := by rw [ByteArray.toList_eq]
theorem nsigns_zero {x : ByteArray} {X : Int} (h : ZTx x X) : (x.toList == [48]) = (signZ X == 0) := by
  have h1 := h.nought ⟨#[48]⟩ txt_zero.1 txt_zero.2
  have h2 := signZ_zero X
  by_cases hz : X = 0
  · rw [h1.1 hz, h2.2 hz, tl_48]; rfl
  · have e1 : (x.toList == [48]) = false := beq_eq_false_iff_ne.2 (fun e => hz (h1.2 (tl_inj (e.trans tl_48.symm))))
    have e2 : (signZ X == 0) = false := beq_eq_false_iff_ne.2 (fun e => hz (h2.1 e))
    rw [e1, e2]
theorem nsigns_minus {x : ByteArray} {X : Int} (h : ZTx x X) (h0 : 0 < x.size) : (((x[0]'h0).toNat : Int) == 45) = decide (signZ X < 0) := by
  have h1 := h.sign.2
  have h2 := signZ_lt X
  rw [← bt_at x 0 h0] at h1
  by_cases hz : X < 0
  · have := h1.1 hz
    rw [this, decide_eq_true (h2.2 hz)]; rfl
  · have : ¬ (x[0]'h0).toNat = 45 := fun e => hz (h1.2 e)
    rw [decide_eq_false (fun e => hz (h2.1 e))]
    exact beq_eq_false_iff_ne.2 (by omega)
set_option maxRecDepth 100000 in
set_option maxHeartbeats 4000000 in
theorem nsigns_any (x y : ByteArray) (w : World) (htab : Tab w) :
    Calls Tryd.prog 6 #[.string x, .string y] w fun e w' => e = .returned (.bool true) ∧ Below w.heap.size w w' := by
  have hb0 : Below w.heap.size w (w.alloc (Obj.cells #[.string x, .string y] 9)) := (Below.refl _ _).alloc (Nat.le_refl _) _
  go_enter Tryd.func6, Tryd.ntmps6
  go_wp2_with fail
  refine (long2_any _ w.heap.size 2 [x, y] (by omega) ?_).mono ?_
  · intro k hk
    match k, hk with
    | 0, _ => simp [go_sem, sg]
    | 1, _ => simp [go_sem, sg]
  rintro e w1 ⟨h | ⟨h, hsz⟩, rfl⟩
  · rw [h]
    go_wp2
    go_ret
    exact ⟨rfl, hb0⟩
  rw [h]
  have hx := hsz 0 (by omega)
  have hy := hsz 1 (by omega)
  simp only [sg, List.getD_cons_zero, List.getD_cons_succ] at hx hy
  clear hsz h
  generalize w.alloc (Obj.cells #[.string x, .string y] 9) = w1 at *
  go_wp2_with fail
  refine (number2_any x _ (by omega)).mono ?_
  rintro e u1 ⟨⟨aa, la, ca, ar1, lr1, cr1, n1, b1, rfl, f1⟩, hb1⟩
  have F1 := hid f1
  clear f1
  go_wp2_with fail
  refine (number2_any y _ (by omega)).mono ?_
  rintro e u2 ⟨⟨ab, lb, cb, ar2, lr2, cr2, n2, b2, rfl, f2⟩, hb2⟩
  have F2 := hid f2
  clear f2
  have c1 := boxed2 hb1 (Obj.cells #[Value.slice aa la ca, Value.bool n1] 43) (Obj.cells #[Value.bool n1, Value.slice ar1 lr1 cr1] 45)
  have c2 := boxed2 hb2 (Obj.cells #[Value.slice ab lb cb, Value.bool n2] 43) (Obj.cells #[Value.bool n2, Value.slice ar2 lr2 cr2] 45)
  have d1 := boxed2 (Below.refl u1.heap.size u1) (Obj.cells #[Value.slice aa la ca, Value.bool n1] 43) (Obj.cells #[Value.bool n1, Value.slice ar1 lr1 cr1] 45)
  have d2 := boxed2 (Below.refl u2.heap.size u2) (Obj.cells #[Value.slice ab lb cb, Value.bool n2] 43) (Obj.cells #[Value.bool n2, Value.slice ar2 lr2 cr2] 45)
  have p1 := boxed2_first u1 (Obj.cells #[Value.slice aa la ca, Value.bool n1] 43) (Obj.cells #[Value.bool n1, Value.slice ar1 lr1 cr1] 45)
  have r1 := boxed2_second u1 (Obj.cells #[Value.slice aa la ca, Value.bool n1] 43) (Obj.cells #[Value.bool n1, Value.slice ar1 lr1 cr1] 45)
  have p2 := boxed2_first u2 (Obj.cells #[Value.slice ab lb cb, Value.bool n2] 43) (Obj.cells #[Value.bool n2, Value.slice ar2 lr2 cr2] 45)
  have r2 := boxed2_second u2 (Obj.cells #[Value.slice ab lb cb, Value.bool n2] 43) (Obj.cells #[Value.bool n2, Value.slice ar2 lr2 cr2] 45)
  clear hb1
  generalize (u1.alloc (Obj.cells #[Value.slice aa la ca, Value.bool n1] 43)).alloc (Obj.cells #[Value.bool n1, Value.slice ar1 lr1 cr1] 45) = W1 at *
  have g1 : Below w.heap.size w ((u2.alloc (Obj.cells #[Value.slice ab lb cb, Value.bool n2] 43)).alloc (Obj.cells #[Value.bool n2, Value.slice ar2 lr2 cr2] 45)) := chain2 (chain2 hb0 c1) c2
  have q1 := (box_below c2 p1 (lt_of_block p1))
  have s1 := (box_below c2 r1 (lt_of_block r1))
  have q2 := p2
  have s2 := r2
  have hall : b1 = true ∧ b2 = true ∨ b1 = false ∨ b2 = false := by
    cases b1 <;> cases b2 <;> simp
  rcases hall with ⟨rfl, rfl⟩ | hall
  · obtain ⟨X, tx, e1, na1, ra1⟩ := F1.out rfl
    obtain ⟨Y, ty, e2, na2, ra2⟩ := F2.out rfl
    have Na : NumIs ((u2.alloc (Obj.cells #[Value.slice ab lb cb, Value.bool n2] 43)).alloc (Obj.cells #[Value.bool n2, Value.slice ar2 lr2 cr2] 45)) (Value.agg #[Value.slice aa la ca, Value.bool n1]) X 60 := ⟨_, _, _, by rw [e1], ((na1.below d1).below c2).mono (show _ ≤ 60 by omega)⟩
    have TX := hid tx
    have H1 := hid e1
    have Nb : NumIs ((u2.alloc (Obj.cells #[Value.slice ab lb cb, Value.bool n2] 43)).alloc (Obj.cells #[Value.bool n2, Value.slice ar2 lr2 cr2] 45)) (Value.agg #[Value.slice ab lb cb, Value.bool n2]) Y 60 := ⟨_, _, _, by rw [e2], (na2.below d2).mono (show _ ≤ 60 by omega)⟩
    have TY := hid ty
    have H2 := hid e2
    have v1 := box_below hb2 p1 (lt_of_block p1)
    have m1 := two_cell0 v1
    have o1 := two_cell1 v1
    have l1 := lt_of_block v1
    clear v1
    clear F1 F2 c1 c2 d1 d2 hb2 e1 e2 na1 na2 ra1 ra2 tx ty p1 p2 r1 r2
    go_wp2_with fail
    generalize ((u2.alloc (Obj.cells #[Value.slice ab lb cb, Value.bool n2] 43)).alloc (Obj.cells #[Value.bool n2, Value.slice ar2 lr2 cr2] 45)) = W3 at *
    refine (nneg_any _ _ _ _ (by omega) Na).mono ?_
    rintro e w4 ⟨v4, rfl, Nn0, hb4⟩
    obtain ⟨an, ln, cn, rfl, nn⟩ := Nn0
    obtain ⟨n4, hn4⟩ : ∃ n4, n4 = decide (-X < 0) := ⟨_, rfl⟩
    have Nn1 : NumIs w4 (Value.agg #[Value.slice an ln cn, Value.bool n4]) (-X) 61 := ⟨an, ln, cn, by rw [hn4], nn⟩
    rw [← hn4]
    clear hn4 nn
    have hx4 := below_alloc' hb4 (Nat.le_refl _) (Obj.cells #[Value.slice an ln cn, Value.bool n4] 43)
    have Na := Na.below hx4
    have Nb := Nb.below hx4
    have Nn := Nn1.below ((Below.refl _ _).alloc (Nat.le_refl _) (Obj.cells #[Value.slice an ln cn, Value.bool n4] 43))
    have q1 := box_below hx4 q1 (lt_of_block q1)
    have q2 := box_below hx4 q2 (lt_of_block q2)
    have q4 := box_new w4 (Obj.cells #[Value.slice an ln cn, Value.bool n4] 43)
    have g4 := chain2 g1 hx4
    clear hb4 hx4 g1 s1 s2 m1 o1 l1 Nn1
    have E1 := hid (show signZ (X + -X) = 0 by rw [Int.add_right_neg]; rfl)
    have E2 := hid (signZ_neg X)
    have E3 := hid (show (-X).natAbs = X.natAbs from Int.natAbs_neg X)
    have E4 := hid (show -X * Y = -(X * Y) from Int.neg_mul X Y)
    have E5 := hid (show X - Y = -(Y - X) by omega)
    obtain ⟨E6a, E6b⟩ := signZ_bd X
    have t1 := two_cell0 q1
    have t2 := two_cell1 q1
    have t3 := two_cell0 q2
    have t4 := two_cell1 q2
    have t5 := two_cell0 q4
    have t6 := two_cell1 q4
    have tabE := htab.below g4
    have hwr : IntKind.i64.wrap (-(signZ X)) = -(signZ X) := by simp [IntKind.wrap, IntKind.bits, IntKind.signed]; omega
    go_wp2
    generalize w4.alloc (Obj.cells #[Value.slice an ln cn, Value.bool n4] 43) = W4 at *
    have B0 : Below W4.heap.size W4 W4.drew := (Below.refl _ _).drew
    go_region_held3 (fun w' => w'.cell? ⟨u1.heap.size, 0, none⟩ = some (Value.slice aa la ca) ∧ w'.cell? ⟨u1.heap.size, 1, none⟩ = some (Value.bool n1) ∧ w'.cell? ⟨u2.heap.size, 0, none⟩ = some (Value.slice ab lb cb) ∧ w'.cell? ⟨u2.heap.size, 1, none⟩ = some (Value.bool n2) ∧ w'.cell? ⟨w4.heap.size, 0, none⟩ = some (Value.slice an ln cn) ∧ w'.cell? ⟨w4.heap.size, 1, none⟩ = some (Value.bool n4)) ((refine keepZ t1 t2 t3 t4 t5 t6 ?_; first | exact B0 | exact B1 | exact B2 | exact B3 | exact B4 | exact B5 | exact B6 | exact B7 | exact B8 | exact B9 | exact B10 | exact B11 | exact B12 | exact B13 | exact B14 | exact B15 | exact B16 | exact B17 | exact B18)) (first
      | (have gk := B17; go_at_call 24; refine (ntext_any _ _ _ _ (by omega) n117 (tabE.below B17)).mono ?_; rintro e w118 ⟨⟨s118, rfl, h118⟩, hb118⟩; have B18 := chain2 B17 hb118; rw [h118.inj (E5.out ▸ h115)])
      | (have gk := B16; go_at_call 19; refine (nneg_any _ _ _ _ (by omega) n116).mono ?_; rintro e w117 ⟨v117, rfl, n117, hb117⟩; have B17 := chain2 B16 hb117)
      | (have gk := B15; go_at_call 25; refine (nsub_any _ _ _ _ _ _ _ (by omega) (by omega) (Nb.below B15) (Na.below B15)).mono ?_; rintro e w116 ⟨v116, rfl, n116, hb116⟩; have B16 := chain2 B15 hb116)
      | (have gk := B14; go_at_call 24; refine (ntext_any _ _ _ _ (by omega) n114 (tabE.below B14)).mono ?_; rintro e w115 ⟨⟨s115, rfl, h115⟩, hb115⟩; have B15 := chain2 B14 hb115)
      | (have gk := B13; go_at_call 25; refine (nsub_any _ _ _ _ _ _ _ (by omega) (by omega) (Na.below B13) (Nb.below B13)).mono ?_; rintro e w114 ⟨v114, rfl, n114, hb114⟩; have B14 := chain2 B13 hb114)
      | (have gk := B12; go_at_call 24; refine (ntext_any _ _ _ _ (by omega) n112 (tabE.below B12)).mono ?_; rintro e w113 ⟨⟨s113, rfl, h113⟩, hb113⟩; have B13 := chain2 B12 hb113; rw [h113.inj (E4.out ▸ h110)])
      | (have gk := B11; go_at_call 19; refine (nneg_any _ _ _ _ (by omega) n111).mono ?_; rintro e w112 ⟨v112, rfl, n112, hb112⟩; have B12 := chain2 B11 hb112)
      | (have gk := B10; go_at_call 23; refine (nmul_any _ _ _ _ _ _ _ (by omega) (by omega) (Na.below B10) (Nb.below B10)).mono ?_; rintro e w111 ⟨v111, rfl, n111, hb111⟩; have B11 := chain2 B10 hb111)
      | (have gk := B9; go_at_call 24; refine (ntext_any _ _ _ _ (by omega) n109 (tabE.below B9)).mono ?_; rintro e w110 ⟨⟨s110, rfl, h110⟩, hb110⟩; have B10 := chain2 B9 hb110)
      | (have gk := B8; go_at_call 23; refine (nmul_any _ _ _ _ _ _ _ (by omega) (by omega) (Nn.below B8) (Nb.below B8)).mono ?_; rintro e w109 ⟨v109, rfl, n109, hb109⟩; have B9 := chain2 B8 hb109)
      | (have gk := B7; go_at_call 11; refine (text_any _ _ _ _ (by omega) n107 (tabE.below B7)).mono ?_; rintro e w108 ⟨⟨s108, rfl, h108, e108⟩, hb108⟩; have B8 := chain2 B7 hb108; rw [num_inj h108 h106 (e108.trans (E3.out.symm.trans e106.symm))])
      | (have gk := B6; go_at_call 22; refine (nabs_any _ _ _ _ (by omega) (Na.below B6)).mono ?_; rintro e w107 ⟨v107, rfl, n107, hb107⟩; have B7 := chain2 B6 hb107)
      | (have gk := B5; go_at_call 11; refine (text_any _ _ _ _ (by omega) n105 (tabE.below B5)).mono ?_; rintro e w106 ⟨⟨s106, rfl, h106, e106⟩, hb106⟩; have B6 := chain2 B5 hb106)
      | (have gk := B4; go_at_call 22; refine (nabs_any _ _ _ _ (by omega) (Nn.below B4)).mono ?_; rintro e w105 ⟨v105, rfl, n105, hb105⟩; have B5 := chain2 B4 hb105)
      | (have gk := B3; go_at_call 21; refine (nsign_any _ _ _ _ (by omega) (Na.below B3)).mono ?_; rintro e w104 ⟨rfl, hb104⟩; have B4 := chain2 B3 hb104)
      | (have gk := B2; go_at_call 21; refine (nsign_any _ _ _ _ (by omega) (Nn.below B2)).mono ?_; rintro e w103 ⟨rfl, hb103⟩; have B3 := chain2 B2 hb103; rw [E2.out])
      | (have gk := B1; go_at_call 21; refine (nsign_any _ _ _ _ (by omega) n101).mono ?_; rintro e w102 ⟨rfl, hb102⟩; have B2 := chain2 B1 hb102; rw [E1.out])
      | (have gk := B0; go_at_call 20; refine (nadd_any _ _ _ _ _ _ _ (by omega) (by omega) (Na.below B0) (Nn.below B0)).mono ?_; rintro e w101 ⟨v101, rfl, n101, hb101⟩; have B1 := chain2 B0 hb101))
    have Na := Na.below B18
    have Nn := Nn.below B18
    obtain ⟨v1, v2, v3, v4, v5, v6⟩ := keepZ t1 t2 t3 t4 t5 t6 B18
    have g8 := chain2 g4 B18
    clear B0 B1 B2 B3 B4 B5 B6 B7 B8 B9 B10 B11 B12 B13 B14 B15 B16 B17 B18 hb101 hb102 hb103 hb104 hb105 hb106 hb107 hb108 hb109 hb110 hb111 hb112 hb113 hb114 hb115 hb116 hb117 hb118 t1 t2 t3 t4 t5 t6 q1 q2 q4 hwr g4 tabE
    have h0 := TX.out.sign.1
    have EX := nsigns_zero TX.out
    have EB := nsigns_minus TX.out h0
    obtain ⟨p, hp, hp0⟩ : ∃ p, signZ (X * X) = p ∧ 0 ≤ p := ⟨_, rfl, by
      have h1 := signZ_lt (X * X)
      have h2 : 0 ≤ X * X := by
        rcases Int.le_total 0 X with h | h
        · exact Int.mul_nonneg h h
        · exact Int.mul_nonneg_of_nonpos_of_nonpos h h
      omega⟩
    have E7 := hid hp
    have E8 := hid (show cmpZ (- -X) X = 0 by rw [Int.neg_neg]; simp [cmpZ])
    clear hp
    obtain ⟨q, hq⟩ : ∃ q, signZ X = q := ⟨_, rfl⟩
    rw [hq] at EX EB
    have HS := hid hq
    clear hq E2 E6a E6b
    have B0 : Below w118.heap.size w118 w118.drew := (Below.refl _ _).drew
    go_wp2
    go_region_held3 (fun w' => w'.cell? ⟨u1.heap.size, 0, none⟩ = some (Value.slice aa la ca) ∧ w'.cell? ⟨u1.heap.size, 1, none⟩ = some (Value.bool n1) ∧ w'.cell? ⟨u2.heap.size, 0, none⟩ = some (Value.slice ab lb cb) ∧ w'.cell? ⟨u2.heap.size, 1, none⟩ = some (Value.bool n2) ∧ w'.cell? ⟨w4.heap.size, 0, none⟩ = some (Value.slice an ln cn) ∧ w'.cell? ⟨w4.heap.size, 1, none⟩ = some (Value.bool n4)) ((refine keepZ v1 v2 v3 v4 v5 v6 ?_; first | exact B0 | exact B1 | exact B2 | exact B3 | exact B4 | exact B5 | exact B6)) (first
      | (have gk := B5; go_at_call 26; refine (ncmp_any _ _ _ _ _ _ _ (by omega) (by omega) n205 (Na.below B5)).mono ?_; rintro e w206 ⟨rfl, hb206⟩; have B6 := chain2 B5 hb206; rw [E8.out])
      | (have gk := B4; go_at_call 19; refine (nneg_any _ _ _ _ (by omega) (Nn.below B4)).mono ?_; rintro e w205 ⟨v205, rfl, n205, hb205⟩; have B5 := chain2 B4 hb205)
      | (have gk := B3; go_at_call 21; refine (nsign_any _ _ _ _ (by omega) n203).mono ?_; rintro e w204 ⟨rfl, hb204⟩; have B4 := chain2 B3 hb204; rw [E7.out])
      | (have gk := B2; go_at_call 23; refine (nmul_any _ _ _ _ _ _ _ (by omega) (by omega) (Na.below B2) (Na.below B2)).mono ?_; rintro e w203 ⟨v203, rfl, n203, hb203⟩; have B3 := chain2 B2 hb203)
      | (have gk := B1; go_at_call 21; refine (nsign_any _ _ _ _ (by omega) (Na.below B1)).mono ?_; rintro e w202 ⟨rfl, hb202⟩; have B2 := chain2 B1 hb202; rw [HS.out])
      | (have gk := B0; go_at_call 21; refine (nsign_any _ _ _ _ (by omega) (Na.below B0)).mono ?_; rintro e w201 ⟨rfl, hb201⟩; have B1 := chain2 B0 hb201; rw [HS.out]))
    all_goals
      have g9 := chain2 g8 B6
      go_wp2
      go_ret
      exact ⟨rfl, g9⟩
  · have hb : b1 = false ∨ b1 = true ∧ b2 = false := by
      cases b1 <;> cases b2 <;> simp at hall ⊢
    clear hall F1 F2 c1 d1 p1 r1 q1 s1 c2 d2 p2 r2 q2 s2 hb2
    rcases hb with rfl | ⟨rfl, rfl⟩
    all_goals
      go_wp2
      go_ret
      exact ⟨rfl, g1⟩
end Go.Proofs.YtcpojpgmgkakeabDoor
