/- NatLaws: what the call answers. -/
import Derived.Test.YtimchmpiaebmmabDoorEnds
import Derived.Test.YtimchmpiaebmmabDoorAdd
import Derived.Test.YtimchmpiaebmmabDoorSub
import Derived.Test.YtimchmpiaebmmabDoorMul
import Derived.Test.YtimchmpiaebmmabDoorText
namespace Go.Proofs.YtimchmpiaebmmabDoor
open Go.RowKit
set_option linter.unusedVariables false
set_option maxRecDepth 100000
set_option linter.unusedSimpArgs false
attribute [local go_sem ↓] Go.wp_at_zero Go.wp_at_succ

set_option maxRecDepth 100000 in
set_option maxHeartbeats 4000000 in
theorem laws_any (x y z : ByteArray) (w : World) (htab : Tab w) :
    Calls Tryd.prog 4 #[.string x, .string y, .string z] w fun e w' => e = .returned (.bool true) ∧ Below w.heap.size w w' := by
  have hb0 : Below w.heap.size w (w.alloc (Obj.cells #[.string x, .string y, .string z] 9)) := (Below.refl _ _).alloc (Nat.le_refl _) _
  go_enter Tryd.func4, Tryd.ntmps4
  go_wp2_with fail
  refine (long_any _ w.heap.size 3 [x, y, z] (by omega) ?_).mono ?_
  · intro k hk
    match k, hk with
    | 0, _ => simp [go_sem, sg]
    | 1, _ => simp [go_sem, sg]
    | 2, _ => simp [go_sem, sg]
  rintro e w1 ⟨h | ⟨h, hsz⟩, rfl⟩
  · rw [h]
    go_wp2
    go_ret
    exact ⟨rfl, hb0⟩
  rw [h]
  have hx := hsz 0 (by omega)
  have hy := hsz 1 (by omega)
  have hz := hsz 2 (by omega)
  simp only [sg, List.getD_cons_zero, List.getD_cons_succ] at hx hy hz
  clear hsz h
  generalize w.alloc (Obj.cells #[.string x, .string y, .string z] 9) = w1 at *
  go_wp2_with fail
  refine (number_any x _ (by omega)).mono ?_
  rintro e u1 ⟨⟨aa, la, ca, ar1, lr1, cr1, b1, rfl, f1⟩, hb1⟩
  have F1 := hid f1
  clear f1
  go_wp2_with fail
  refine (number_any y _ (by omega)).mono ?_
  rintro e u2 ⟨⟨ab, lb, cb, ar2, lr2, cr2, b2, rfl, f2⟩, hb2⟩
  have F2 := hid f2
  clear f2
  go_wp2_with fail
  refine (number_any z _ (by omega)).mono ?_
  rintro e u3 ⟨⟨ac, lc, cc, ar3, lr3, cr3, b3, rfl, f3⟩, hb3⟩
  have F3 := hid f3
  clear f3
  have c1 := boxed2 hb1 (Obj.cells #[Value.slice aa la ca] 26) (Obj.cells #[Value.slice ar1 lr1 cr1] 29)
  have c2 := boxed2 hb2 (Obj.cells #[Value.slice ab lb cb] 26) (Obj.cells #[Value.slice ar2 lr2 cr2] 29)
  have c3 := boxed2 hb3 (Obj.cells #[Value.slice ac lc cc] 26) (Obj.cells #[Value.slice ar3 lr3 cr3] 29)
  have d1 := boxed2 (Below.refl u1.heap.size u1) (Obj.cells #[Value.slice aa la ca] 26) (Obj.cells #[Value.slice ar1 lr1 cr1] 29)
  have d2 := boxed2 (Below.refl u2.heap.size u2) (Obj.cells #[Value.slice ab lb cb] 26) (Obj.cells #[Value.slice ar2 lr2 cr2] 29)
  have d3 := boxed2 (Below.refl u3.heap.size u3) (Obj.cells #[Value.slice ac lc cc] 26) (Obj.cells #[Value.slice ar3 lr3 cr3] 29)
  have p1 := boxed2_first u1 (Obj.cells #[Value.slice aa la ca] 26) (Obj.cells #[Value.slice ar1 lr1 cr1] 29)
  have p2 := boxed2_first u2 (Obj.cells #[Value.slice ab lb cb] 26) (Obj.cells #[Value.slice ar2 lr2 cr2] 29)
  have p3 := boxed2_first u3 (Obj.cells #[Value.slice ac lc cc] 26) (Obj.cells #[Value.slice ar3 lr3 cr3] 29)
  clear hb1
  generalize (u1.alloc (Obj.cells #[Value.slice aa la ca] 26)).alloc (Obj.cells #[Value.slice ar1 lr1 cr1] 29) = W1 at *
  generalize (u2.alloc (Obj.cells #[Value.slice ab lb cb] 26)).alloc (Obj.cells #[Value.slice ar2 lr2 cr2] 29) = W2 at *
  have g1 : Below w.heap.size w ((u3.alloc (Obj.cells #[Value.slice ac lc cc] 26)).alloc (Obj.cells #[Value.slice ar3 lr3 cr3] 29)) :=
    chain3 hb0 c1 c2 c3
  have q2 := box_below c3 p2 (lt_of_block p2)
  have q1 := box_below c3 (box_below c2 p1 (lt_of_block p1)) (lt_of_block (box_below c2 p1 (lt_of_block p1)))
  have hall : b1 = true ∧ b2 = true ∧ b3 = true ∨ b1 = false ∨ b2 = false ∨ b3 = false := by
    cases b1 <;> cases b2 <;> cases b3 <;> simp
  rcases hall with ⟨rfl, rfl, rfl⟩ | hall
  · obtain ⟨tx, na1, _⟩ := F1.out rfl
    obtain ⟨ty, nb1, _⟩ := F2.out rfl
    obtain ⟨tz, nc1, _⟩ := F3.out rfl
    have na := (((na1.below d1).below c2).below c3).mono (show _ ≤ 30 by omega)
    have nb := ((nb1.below d2).below c3).mono (show _ ≤ 30 by omega)
    have nc := (nc1.below d3).mono (show _ ≤ 30 by omega)
    have TX := hid tx
    have s2 := box_below hb3 p2 (lt_of_block p2)
    have s1 := box_below hb3 (box_below c2 p1 (lt_of_block p1)) (lt_of_block (box_below c2 p1 (lt_of_block p1)))
    have l1 := lt_of_block s1
    have l2 := lt_of_block s2
    have r1 := cell_of_one s1
    have r2 := cell_of_one s2
    clear s1 s2
    clear F1 F2 F3 c1 c2 c3 d1 d2 d3 hb2 hb3 p1 p2 tx ty tz na1 nb1 nc1
    go_wp2
    generalize (u3.alloc (Obj.cells #[Value.slice ac lc cc] 26)).alloc (Obj.cells #[Value.slice ar3 lr3 cr3] 29) = W3 at *
    have t1 := cell_of_one q1
    have t2 := cell_of_one q2
    have t3 := cell_of_one p3
    clear r1 r2 l1 l2
    have E1 := hid (cmpI_eq (Nat.add_comm (num x) (num y)))
    have E2 := hid (cmpI_eq (Nat.mul_comm (num x) (num y)))
    have E3 := hid (cmpI_eq (Nat.add_assoc (num x) (num y) (num z)))
    have E4 := hid (cmpI_eq (Nat.mul_assoc (num x) (num y) (num z)))
    have E5 := hid (cmpI_eq (Nat.mul_add (num x) (num y) (num z)))
    obtain ⟨X, hX⟩ : ∃ X, X = num x := ⟨_, rfl⟩
    rw [← hX] at na E1 E2 E3 E4 E5
    have HX := hid hX
    clear hX
    generalize num y = Y at *
    generalize num z = Z at *
    have B0 : Below W3.heap.size W3 W3.drew := (Below.refl _ _).drew
    go_region_held3 (fun w' => w'.cell? ⟨u1.heap.size, 0, none⟩ = some (.slice aa la ca) ∧ w'.cell? ⟨u2.heap.size, 0, none⟩ = some (.slice ab lb cb) ∧ w'.cell? ⟨u3.heap.size, 0, none⟩ = some (.slice ac lc cc)) ((refine keep3 t1 t2 t3 ?_; first | exact B0 | exact B1 | exact B2 | exact B3 | exact B4 | exact B5 | exact B6 | exact B7 | exact B8 | exact B9 | exact B10 | exact B11 | exact B12 | exact B13 | exact B14 | exact B15 | exact B16 | exact B17 | exact B18 | exact B19 | exact B20 | exact B21 | exact B22)) (first
      | (have gk := B21; go_at_call 10; refine (cmp_any _ _ _ _ _ _ _ n118 n121).mono ?_; rintro e w122 ⟨rfl, hb122⟩; have B22 := chain2 B21 hb122; rw [E5.out])
      | (have gk := B20; go_at_call 12; refine (add_any _ _ _ _ _ _ _ (by omega) (by omega) n119 n120).mono ?_; rintro e w121 ⟨v121, rfl, n121, hb121⟩; have B21 := chain2 B20 hb121; have n118 := n118.below hb121)
      | (have gk := B19; go_at_call 11; refine (mul_any _ _ _ _ _ _ _ (by omega) (by omega) (na.below B19) (nc.below B19)).mono ?_; rintro e w120 ⟨v120, rfl, n120, hb120⟩; have B20 := chain2 B19 hb120; have n118 := n118.below hb120; have n119 := n119.below hb120)
      | (have gk := B18; go_at_call 11; refine (mul_any _ _ _ _ _ _ _ (by omega) (by omega) (na.below B18) (nb.below B18)).mono ?_; rintro e w119 ⟨v119, rfl, n119, hb119⟩; have B19 := chain2 B18 hb119; have n118 := n118.below hb119)
      | (have gk := B17; go_at_call 11; refine (mul_any _ _ _ _ _ _ _ (by omega) (by omega) (na.below B17) n117).mono ?_; rintro e w118 ⟨v118, rfl, n118, hb118⟩; have B18 := chain2 B17 hb118)
      | (have gk := B16; go_at_call 12; refine (add_any _ _ _ _ _ _ _ (by omega) (by omega) (nb.below B16) (nc.below B16)).mono ?_; rintro e w117 ⟨v117, rfl, n117, hb117⟩; have B17 := chain2 B16 hb117)
      | (have gk := B15; go_at_call 10; refine (cmp_any _ _ _ _ _ _ _ n113 n115).mono ?_; rintro e w116 ⟨rfl, hb116⟩; have B16 := chain2 B15 hb116; rw [E4.out])
      | (have gk := B14; go_at_call 11; refine (mul_any _ _ _ _ _ _ _ (by omega) (by omega) (na.below B14) n114).mono ?_; rintro e w115 ⟨v115, rfl, n115, hb115⟩; have B15 := chain2 B14 hb115; have n113 := n113.below hb115)
      | (have gk := B13; go_at_call 11; refine (mul_any _ _ _ _ _ _ _ (by omega) (by omega) (nb.below B13) (nc.below B13)).mono ?_; rintro e w114 ⟨v114, rfl, n114, hb114⟩; have B14 := chain2 B13 hb114; have n113 := n113.below hb114)
      | (have gk := B12; go_at_call 11; refine (mul_any _ _ _ _ _ _ _ (by omega) (by omega) n112 (nc.below B12)).mono ?_; rintro e w113 ⟨v113, rfl, n113, hb113⟩; have B13 := chain2 B12 hb113)
      | (have gk := B11; go_at_call 11; refine (mul_any _ _ _ _ _ _ _ (by omega) (by omega) (na.below B11) (nb.below B11)).mono ?_; rintro e w112 ⟨v112, rfl, n112, hb112⟩; have B12 := chain2 B11 hb112)
      | (have gk := B10; go_at_call 10; refine (cmp_any _ _ _ _ _ _ _ n108 n110).mono ?_; rintro e w111 ⟨rfl, hb111⟩; have B11 := chain2 B10 hb111; rw [E3.out])
      | (have gk := B9; go_at_call 12; refine (add_any _ _ _ _ _ _ _ (by omega) (by omega) (na.below B9) n109).mono ?_; rintro e w110 ⟨v110, rfl, n110, hb110⟩; have B10 := chain2 B9 hb110; have n108 := n108.below hb110)
      | (have gk := B8; go_at_call 12; refine (add_any _ _ _ _ _ _ _ (by omega) (by omega) (nb.below B8) (nc.below B8)).mono ?_; rintro e w109 ⟨v109, rfl, n109, hb109⟩; have B9 := chain2 B8 hb109; have n108 := n108.below hb109)
      | (have gk := B7; go_at_call 12; refine (add_any _ _ _ _ _ _ _ (by omega) (by omega) n107 (nc.below B7)).mono ?_; rintro e w108 ⟨v108, rfl, n108, hb108⟩; have B8 := chain2 B7 hb108)
      | (have gk := B6; go_at_call 12; refine (add_any _ _ _ _ _ _ _ (by omega) (by omega) (na.below B6) (nb.below B6)).mono ?_; rintro e w107 ⟨v107, rfl, n107, hb107⟩; have B7 := chain2 B6 hb107)
      | (have gk := B5; go_at_call 10; refine (cmp_any _ _ _ _ _ _ _ n104 n105).mono ?_; rintro e w106 ⟨rfl, hb106⟩; have B6 := chain2 B5 hb106; rw [E2.out])
      | (have gk := B4; go_at_call 11; refine (mul_any _ _ _ _ _ _ _ (by omega) (by omega) (nb.below B4) (na.below B4)).mono ?_; rintro e w105 ⟨v105, rfl, n105, hb105⟩; have B5 := chain2 B4 hb105; have n104 := n104.below hb105)
      | (have gk := B3; go_at_call 11; refine (mul_any _ _ _ _ _ _ _ (by omega) (by omega) (na.below B3) (nb.below B3)).mono ?_; rintro e w104 ⟨v104, rfl, n104, hb104⟩; have B4 := chain2 B3 hb104)
      | (have gk := B2; go_at_call 10; refine (cmp_any _ _ _ _ _ _ _ n101 n102).mono ?_; rintro e w103 ⟨rfl, hb103⟩; have B3 := chain2 B2 hb103; rw [E1.out])
      | (have gk := B1; go_at_call 12; refine (add_any _ _ _ _ _ _ _ (by omega) (by omega) (nb.below B1) (na.below B1)).mono ?_; rintro e w102 ⟨v102, rfl, n102, hb102⟩; have B2 := chain2 B1 hb102; have n101 := n101.below hb102)
      | (have gk := B0; go_at_call 12; refine (add_any _ _ _ _ _ _ _ (by omega) (by omega) (na.below B0) (nb.below B0)).mono ?_; rintro e w101 ⟨v101, rfl, n101, hb101⟩; have B1 := chain2 B0 hb101))
    have c4 := chain2 g1 B22
    have q1 := box_below B22 q1 (lt_of_block q1)
    have q2 := box_below B22 q2 (lt_of_block q2)
    have na := na.below B22
    have nb := nb.below B22
    clear B0 B1 B2 B3 B4 B5 B6 B7 B8 B9 B10 B11 B12 B13 B14 B15 B16 B17 B18 B19 B20 B21 B22 hb101 hb102 hb103 hb104 hb105 hb106 hb107 hb108 hb109 hb110 hb111 hb112 hb113 hb114 hb115 hb116 hb117 hb118 hb119 hb120 hb121 hb122 n118 n121 nc t1 t2 t3 E1 E2 E3 E4 E5 p3 g1
    go_wp2
    obtain ⟨X0, e0⟩ : ∃ v, v = w122 := ⟨_, rfl⟩
    subst e0
    have t1 := cell_of_one q1
    have t2 := cell_of_one q2
    have B0 : Below X0.heap.size X0 X0.drew := (Below.refl _ _).drew
    go_region_held3 (fun w' => w'.cell? ⟨u1.heap.size, 0, none⟩ = some (.slice aa la ca) ∧ w'.cell? ⟨u2.heap.size, 0, none⟩ = some (.slice ab lb cb) ∧ w'.cell? ⟨u2.heap.size, 0, none⟩ = some (.slice ab lb cb)) ((refine keep3 t1 t2 t2 ?_; first | exact B0 | exact B1 | exact B2 | exact below_alloc' B0 (Nat.le_refl _) _ | exact below_alloc' B1 (Nat.le_refl _) _ | exact below_alloc' B2 (Nat.le_refl _) _ | exact B2.setCell B1.size _ | exact B2.setCell B0.size _ | exact (below_alloc' B2 (Nat.le_refl _) _).setCell B2.size _)) (first
      | (have gk := B1; go_at_call 13; refine (sub_form _ _ _ (X + Y) Y (max 30 30 + 1) 30 (by omega) (by omega) (by first | exact m1 | exact m1.below (below_alloc' (Below.refl _ _) (Nat.le_refl _) _)) (by first | exact nb.below B1 | exact nb.below (below_alloc' B1 (Nat.le_refl _) _)) (Nat.le_add_left _ _)).mono ?_; rintro e w12 ⟨af, lf, cf, rfl, m3, hb12⟩; have B2 : Below X0.heap.size X0 w12 := (by first | exact chain2 B1 hb12 | exact chain2 (below_alloc' B1 (Nat.le_refl _) _) hb12); (try have z0 := box_below hb12 (box_new w11 (Obj.cells #[Value.slice none 0 0] 26)) (lt_of_block (box_new w11 (Obj.cells #[Value.slice none 0 0] 26)))); (try have z0 := box_below hb12 z0 (lt_of_block z0)); (try have z1 := cell_of_one z0); (try have z2 := free_of_one z0))
      | (have gk := B0; go_at_call 12; refine (add_any _ _ _ X Y 30 30 (by omega) (by omega) (by first | exact na.below B0 | exact na.below (below_alloc' B0 (Nat.le_refl _) _)) (by first | exact nb.below B0 | exact nb.below (below_alloc' B0 (Nat.le_refl _) _))).mono ?_; rintro e w11 ⟨v1, rfl, m1, hb11⟩; have B1 : Below X0.heap.size X0 w11 := (by first | exact chain2 B0 hb11 | exact chain2 (below_alloc' B0 (Nat.le_refl _) _) hb11); (try have z0 := box_below hb11 (show (X0.drew.alloc (Obj.cells #[Value.slice none 0 0] 26)).heap[X0.heap.size]? = some (Obj.cells #[Value.slice none 0 0] 26) from box_new X0.drew (Obj.cells #[Value.slice none 0 0] 26)) (lt_of_block (box_new X0.drew (Obj.cells #[Value.slice none 0 0] 26))))))
    all_goals
      first
        | (have U := end_set B2 z0 B1.size m3 (Value.slice af lf cf); generalize w12.setCell { block := w11.heap.size, off := 0 } (Value.slice af lf cf) = V2 at U ⊢; generalize w11.heap.size = g at U ⊢)
        | (have U := end_set B2 z0 (Nat.le_refl _) m3 (Value.slice af lf cf); generalize w12.setCell { block := X0.heap.size, off := 0 } (Value.slice af lf cf) = V2 at U ⊢; obtain ⟨g, hg⟩ : ∃ g, g = X0.heap.size := ⟨_, rfl⟩; have U := (show Below X0.heap.size X0 V2 ∧ V2.heap[g]? = some (Obj.cells #[Value.slice af lf cf] 26) ∧ _ from ⟨U.1, by rw [hg]; exact U.2.1, U.2.2⟩); rw [← hg]; clear hg)
        | (have U := end_new B2 m3 (Value.slice af lf cf); generalize w12.alloc (Obj.cells #[Value.slice af lf cf] 26) = V2 at U ⊢; generalize w12.heap.size = g at U ⊢)
      obtain ⟨bE, jf, nf⟩ := U
      clear B0 B1 B2 hb11 hb12 m1 m3 t1 t2
      try clear z0 z1 z2
      have cE := chain2 c4 bE
      have tabE := htab.below cE
      have t3 := cell_of_one jf
      clear bE c4 jf
      go_wp2_with fail
      refine (text_any _ _ _ _ (by omega) nf tabE).mono ?_
      rintro e w15 ⟨⟨s1, rfl, h1, e1⟩, hb15⟩
      have cF := chain2 cE hb15
      have he : s1 = x := num_inj h1 TX.out (by rw [e1, ← HX.out]; omega)
      rw [he]
      clear he h1 e1
      go_wp2
      go_ret
      exact ⟨rfl, cF⟩
  · have hb : b1 = false ∨ b1 = true ∧ b2 = false ∨ b1 = true ∧ b2 = true ∧ b3 = false := by
      cases b1 <;> cases b2 <;> cases b3 <;> simp at hall ⊢
    clear hall
    rcases hb with rfl | ⟨rfl, rfl⟩ | ⟨rfl, rfl, rfl⟩
    all_goals
      go_wp2
      go_ret
      exact ⟨rfl, g1⟩
end Go.Proofs.YtimchmpiaebmmabDoor
