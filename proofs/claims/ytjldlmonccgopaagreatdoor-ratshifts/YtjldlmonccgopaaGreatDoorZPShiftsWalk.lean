/- RatShifts: the law's walk. -/
import Derived.Test.YtjldlmonccgopaaGreatDoorZPPartsWalk
import Derived.Test.YtjldlmonccgopaaGreatDoorPk37
import Derived.Test.YtjldlmonccgopaaGreatDoorZPShMath
namespace Go.Proofs.YtjldlmonccgopaaGreatDoor
open Go.RowKit
set_option linter.unusedVariables false
set_option maxRecDepth 100000
set_option linter.unusedSimpArgs false
attribute [local go_sem ↓] Go.wp_at_zero Go.wp_at_succ

set_option maxHeartbeats 20000000 in
theorem qshifts_any (x : ByteArray) (m : Int) (hm1 : -32768 ≤ m) (hm2 : m < 32768) (w : World) (hm : Mx w) (htab : Tab w) :
    Calls Tryz.prog 3 #[.string x, .int .i16 m] w fun e w' => e = .returned (.bool true) ∧ Below w.heap.size w w' := by
  have hw1 : IntKind.i64.wrap m = m := by rw [IntKind.wrap_i64]; omega
  have hw2 : IntKind.i64.wrap (2 * m) = 2 * m := by rw [IntKind.wrap_i64]; omega
  go_enter Tryz.func3, Tryz.ntmps3
  by_cases hs : 256 < x.size
  · go_wp2
    go_ret
    exact ⟨rfl, Below.refl _ _⟩
  go_wp2_with fail
  refine (number3_any x w (by omega) hm htab).mono ?_
  rintro e w1 ⟨⟨a1, l1, c1, d1, a2, l2, c2, d2, a3, l3, c3, d3, a4, l4, c4, d4, bb, rfl, F⟩, b1⟩
  have x1 := boxed2_first w1 (Obj.cells #[Value.slice a1 l1 c1, Value.bool d1, Value.slice a2 l2 c2, Value.bool d2] 29) (Obj.cells #[.bool d3, .slice a3 l3 c3, .bool d4, .slice a4 l4 c4] 36)
  have hB := boxed2 (Below.refl w1.heap.size w1) (Obj.cells #[Value.slice a1 l1 c1, Value.bool d1, Value.slice a2 l2 c2, Value.bool d2] 29) (Obj.cells #[.bool d3, .slice a3 l3 c3, .bool d4, .slice a4 l4 c4] 36)
  have C1 := chain2 b1 hB
  have F := fun h => (show ∃ n d, Can x n d ∧ RatIs _ (.agg #[Value.slice a1 l1 c1, Value.bool d1, Value.slice a2 l2 c2, Value.bool d2]) n d 40 from by
    obtain ⟨n, d, g1, g2, g3⟩ := F h
    exact ⟨n, d, g1, (g2.below hB).mono (by omega)⟩)
  clear hB b1
  cases bb
  · clear F
    go_wp2
    go_ret
    exact ⟨rfl, C1⟩
  obtain ⟨n, d, hcan, Ra⟩ := F rfl
  clear F
  have hdp : 0 < d := by have := hcan.pos; omega
  have hd0 : d ≠ 0 := by omega
  have hd1 : d * 1 ≠ 0 := by omega
  have hdb : lowD (n * 1 + m * d) (d * 1) ≠ 0 := by have := low_pos (x := n * 1 + m * d) hd1; omega
  have hdc : lowD (n * 1 + 2 * m * d) (d * 1) ≠ 0 := by have := low_pos (x := n * 1 + 2 * m * d) hd1; omega
  have HF := hid (fdiv_shift (n := n) (m := m) hdp)
  have HR := hid (rnd_shift (n := n) (m := m) hdp)
  have HN := hid (rnd_neg (n := n) hdp)
  clear hcan hdp
  obtain ⟨t0, t1, t2, t3⟩ := four_cell x1
  go_wp2_with fail
  generalize (w1.alloc (Obj.cells #[Value.slice a1 l1 c1, Value.bool d1, Value.slice a2 l2 c2, Value.bool d2] 29)).alloc (Obj.cells #[.bool d3, .slice a3 l3 c3, .bool d4, .slice a4 l4 c4] 36) = W1 at *
  generalize w1.heap.size = k1 at *
  have B0 : Below W1.heap.size W1 W1.drew := (Below.refl _ _).drew
  rename_i Q1 K1 hK1
  have tail1 : ∀ (V : World) (g : Nat) (a5 : Option Addr) (l5 c5 : Nat) (d5 : Bool) (a6 : Option Addr) (l6 c6 : Nat) (d6 : Bool) (p13 p14 p15 p16 p17 p18 p19 p20 p21 p22 p23 p24 p25 p26 p27 p28 p29 p30 p31 p32 p33 p34 : Value), (Below W1.heap.size W1 V ∧ V.heap[g]? = some (Obj.cells #[Value.slice a5 l5 c5, Value.bool d5, Value.slice a6 l6 c6, Value.bool d6] 29 (0, 0)) ∧ W1.heap.size ≤ g ∧ RatIs V (Value.agg #[Value.slice a5 l5 c5, Value.bool d5, Value.slice a6 l6 c6, Value.bool d6]) (lowN (n * 1 + m * d) (d * 1)) (lowD (n * 1 + m * d) (d * 1)) (2 * 40 + 12)) → K1 { tmps := #[Value.string x, Value.int IntKind.i16 m, undef, undef, Value.bool false, Value.pointer (some { block := k1, off := 0 }), Value.pointer (some { block := k1 + 1, off := 0 }), Value.bool true, Value.bool true, Value.int IntKind.i64 (2 * m), Value.pointer (some { block := g, off := 0 }), undef, undef, p13, p14, p15, p16, p17, p18, p19, p20, p21, p22, p23, p24, p25, p26, p27, p28, p29, p30, p31, p32, p33, p34, undef, undef, undef, undef, undef, undef, undef, undef, undef, undef, undef, undef, undef, undef, undef, undef, undef, undef, undef, undef, undef, undef, undef, undef, undef, undef, undef, undef, undef, undef, undef, undef, undef, undef, undef, undef], defers := [] } V := by
    rintro V g a5 l5 c5 d5 a6 l6 c6 d6 p13 p14 p15 p16 p17 p18 p19 p20 p21 p22 p23 p24 p25 p26 p27 p28 p29 p30 p31 p32 p33 p34 ⟨bV, gV, hg, Rb⟩
    refine hK1 _ _ ?_
    clear hK1 B0
    have x1 := box_below bV x1 (lt_of_block x1)
    have C1 := chain2 C1 bV
    have Ra := Ra.below bV
    have t0 := kc bV t0
    have t1 := kc bV t1
    have t2 := kc bV t2
    have t3 := kc bV t3
    clear bV hg
    go_wp2_with fail
    have B0 : Below V.heap.size V V.drew := (Below.refl _ _).drew
    rename_i K2 hK2
    have tail2 : ∀ (U : World) (h : Nat) (a7 : Option Addr) (l7 c7 : Nat) (d7 : Bool) (a8 : Option Addr) (l8 c8 : Nat) (d8 : Bool) (q13 q14 q15 q16 q17 q18 q19 q20 q21 q22 q23 q24 q25 q26 q27 q28 q29 q30 q31 q32 q33 q34 q35 q36 q37 q38 : Value), (Below V.heap.size V U ∧ U.heap[h]? = some (Obj.cells #[Value.slice a7 l7 c7, Value.bool d7, Value.slice a8 l8 c8, Value.bool d8] 29 (0, 0)) ∧ V.heap.size ≤ h ∧ RatIs U (Value.agg #[Value.slice a7 l7 c7, Value.bool d7, Value.slice a8 l8 c8, Value.bool d8]) (lowN (n * 1 + 2 * m * d) (d * 1)) (lowD (n * 1 + 2 * m * d) (d * 1)) (2 * 40 + 12)) → K2 { tmps := #[Value.string x, Value.int IntKind.i16 m, undef, undef, Value.bool false, Value.pointer (some { block := k1, off := 0 }), Value.pointer (some { block := k1 + 1, off := 0 }), Value.bool true, Value.bool true, Value.int IntKind.i64 (2 * m), Value.pointer (some { block := g, off := 0 }), Value.pointer (some { block := h, off := 0 }), undef, q13, q14, q15, q16, q17, q18, q19, q20, q21, q22, q23, q24, q25, q26, q27, q28, q29, q30, q31, q32, q33, q34, q35, q36, q37, q38, undef, undef, undef, undef, undef, undef, undef, undef, undef, undef, undef, undef, undef, undef, undef, undef, undef, undef, undef, undef, undef, undef, undef, undef, undef, undef, undef, undef, undef, undef, undef, undef], defers := [] } U := by
      rintro U h a7 l7 c7 d7 a8 l8 c8 d8 q13 q14 q15 q16 q17 q18 q19 q20 q21 q22 q23 q24 q25 q26 q27 q28 q29 q30 q31 q32 q33 q34 q35 q36 q37 q38 ⟨bV, hV, hg, Rc⟩
      refine hK2 _ _ ?_
      clear hK2 B0 t0 t1 t2 t3
      have x1 := box_below bV x1 (lt_of_block x1)
      have gV := box_below bV gV (lt_of_block gV)
      have C1 := chain2 C1 bV
      have Ra := Ra.below bV
      have Rb := Rb.below bV
      obtain ⟨t0, t1, t2, t3⟩ := four_cell x1
      clear bV hg
      go_wp2_with fail
      refine (qneg_any _ _ n d 40 (by omega) Ra).mono ?_
      rintro e u0 ⟨v0, rfl, R0, f0⟩
      obtain ⟨a9, l9, c9, d9, a10, l10, c10, d10, rfl⟩ := rat_form R0
      have A0 := (Below.refl u0.heap.size u0).alloc (Nat.le_refl _) (Obj.cells #[Value.slice a9 l9 c9, Value.bool d9, Value.slice a10 l10 c10, Value.bool d10] 29)
      have k9V := box_new u0 (Obj.cells #[Value.slice a9 l9 c9, Value.bool d9, Value.slice a10 l10 c10, Value.bool d10] 29)
      have f0 := chain2 f0 A0
      have Rd := R0.below A0
      have x1 := box_below f0 x1 (lt_of_block x1)
      have gV := box_below f0 gV (lt_of_block gV)
      have hV := box_below f0 hV (lt_of_block hV)
      have C1 := chain2 C1 f0
      have Ra := Ra.below f0
      have Rb := Rb.below f0
      have Rc := Rc.below f0
      clear f0 A0 R0 t0 t1 t2 t3
      obtain ⟨t0, t1, t2, t3⟩ := four_cell x1
      obtain ⟨g0, g1, g2, g3⟩ := four_cell gV
      obtain ⟨h0, h1, h2, h3⟩ := four_cell hV
      obtain ⟨e0, e1, e2, e3⟩ := four_cell k9V
      clear x1 gV hV k9V
      go_wp2_with fail
      generalize u0.alloc (Obj.cells #[Value.slice a9 l9 c9, Value.bool d9, Value.slice a10 l10 c10, Value.bool d10] 29) = S at *
      generalize u0.heap.size = k9 at *
      have B0 : Below S.heap.size S S.drew := (Below.refl _ _).drew
      have KP : ∀ w' : World, Below S.heap.size S w' → (w'.cell? ⟨k1, 0, none⟩ = some (.slice a1 l1 c1) ∧ w'.cell? ⟨k1, 1, none⟩ = some (.bool d1) ∧ w'.cell? ⟨k1, 2, none⟩ = some (.slice a2 l2 c2) ∧ w'.cell? ⟨k1, 3, none⟩ = some (.bool d2) ∧ w'.cell? ⟨g, 0, none⟩ = some (.slice a5 l5 c5) ∧ w'.cell? ⟨g, 1, none⟩ = some (.bool d5) ∧ w'.cell? ⟨g, 2, none⟩ = some (.slice a6 l6 c6) ∧ w'.cell? ⟨g, 3, none⟩ = some (.bool d6) ∧ w'.cell? ⟨h, 0, none⟩ = some (.slice a7 l7 c7) ∧ w'.cell? ⟨h, 1, none⟩ = some (.bool d7) ∧ w'.cell? ⟨h, 2, none⟩ = some (.slice a8 l8 c8) ∧ w'.cell? ⟨h, 3, none⟩ = some (.bool d8) ∧ w'.cell? ⟨k9, 0, none⟩ = some (.slice a9 l9 c9) ∧ w'.cell? ⟨k9, 1, none⟩ = some (.bool d9) ∧ w'.cell? ⟨k9, 2, none⟩ = some (.slice a10 l10 c10) ∧ w'.cell? ⟨k9, 3, none⟩ = some (.bool d10)) := fun w' hb => ⟨kc hb t0, kc hb t1, kc hb t2, kc hb t3, kc hb g0, kc hb g1, kc hb g2, kc hb g3, kc hb h0, kc hb h1, kc hb h2, kc hb h3, kc hb e0, kc hb e1, kc hb e2, kc hb e3⟩
      go_region_held3 (fun w' => w'.cell? ⟨k1, 0, none⟩ = some (.slice a1 l1 c1) ∧ w'.cell? ⟨k1, 1, none⟩ = some (.bool d1) ∧ w'.cell? ⟨k1, 2, none⟩ = some (.slice a2 l2 c2) ∧ w'.cell? ⟨k1, 3, none⟩ = some (.bool d2) ∧ w'.cell? ⟨g, 0, none⟩ = some (.slice a5 l5 c5) ∧ w'.cell? ⟨g, 1, none⟩ = some (.bool d5) ∧ w'.cell? ⟨g, 2, none⟩ = some (.slice a6 l6 c6) ∧ w'.cell? ⟨g, 3, none⟩ = some (.bool d6) ∧ w'.cell? ⟨h, 0, none⟩ = some (.slice a7 l7 c7) ∧ w'.cell? ⟨h, 1, none⟩ = some (.bool d7) ∧ w'.cell? ⟨h, 2, none⟩ = some (.slice a8 l8 c8) ∧ w'.cell? ⟨h, 3, none⟩ = some (.bool d8) ∧ w'.cell? ⟨k9, 0, none⟩ = some (.slice a9 l9 c9) ∧ w'.cell? ⟨k9, 1, none⟩ = some (.bool d9) ∧ w'.cell? ⟨k9, 2, none⟩ = some (.slice a10 l10 c10) ∧ w'.cell? ⟨k9, 3, none⟩ = some (.bool d10)) ((first | with_reducible exact KP _ B0 | with_reducible exact KP _ B1 | with_reducible exact KP _ B2 | with_reducible exact KP _ B3 | with_reducible exact KP _ B4 | with_reducible exact KP _ B5 | with_reducible exact KP _ B6 | with_reducible exact KP _ B7 | with_reducible exact KP _ B8 | with_reducible exact KP _ B9 | with_reducible exact KP _ B10 | with_reducible exact KP _ B11 | with_reducible exact KP _ B12 | with_reducible exact KP _ B13 | with_reducible exact KP _ B14)) (first
        | (have gk := B13; go_at_call 12; refine (ncmp_any _ _ _ (rnd n d) (rnd n d) (200 + 1) 200 (by omega) (by omega) n12 n13).mono ?_; rintro e u14 ⟨rfl, f14⟩; have B14 := chain2 B13 f14; rw [cmpZ_self])
        | (have gk := B12; go_at_call 13; refine (qround_any _ _ n d 40 (by omega) (Ra.below B12) hd0).mono ?_; rintro e u13 ⟨v13, rfl, n13, f13⟩; have B13 := chain2 B12 f13; have n13 := n13.mono (show 40 + 8 ≤ 200 by decide); have n12 := n12.below f13)
        | (have gk := B11; go_at_call 14; refine (nneg_any _ _ _ 200 (by omega) n11).mono ?_; rintro e u12 ⟨v12, rfl, n12, f12⟩; have B12 := chain2 B11 f12; rw [HN.out] at n12)
        | (have gk := B10; go_at_call 13; refine (qround_any _ _ (-n) d 41 (by omega) (Rd.below B10) hd0).mono ?_; rintro e u11 ⟨v11, rfl, n11, f11⟩; have B11 := chain2 B10 f11; have n11 := n11.mono (show 41 + 8 ≤ 200 by decide))
        | (have gk := B9; go_at_call 12; refine (ncmp_any _ _ _ (rnd n d) (rnd n d) (max 200 200 + 1) 200 (by omega) (by omega) n8 n9).mono ?_; rintro e u10 ⟨rfl, f10⟩; have B10 := chain2 B9 f10; rw [cmpZ_self])
        | (have gk := B8; go_at_call 13; refine (qround_any _ _ n d 40 (by omega) (Ra.below B8) hd0).mono ?_; rintro e u9 ⟨v9, rfl, n9, f9⟩; have B9 := chain2 B8 f9; have n9 := n9.mono (show 40 + 8 ≤ 200 by decide); have n8 := n8.below f9)
        | (have gk := B7; go_at_call 10; refine (nsub_any _ _ _ _ (2 * m) 200 200 (by omega) (by omega) n6 n7).mono ?_; rintro e u8 ⟨v8, rfl, n8, f8⟩; have B8 := chain2 B7 f8; rw [HR.out] at n8)
        | (have gk := B6; go_at_call 11; refine (nof_any _ (2 * m) (by omega) (by omega)).mono ?_; rintro e u7 ⟨v7, rfl, n7, f7⟩; have B7 := chain2 B6 f7; have n7 := n7.mono (show 2 ≤ 200 by decide); have n6 := n6.below f7)
        | (have gk := B5; go_at_call 13; refine (qround_any _ _ (lowN (n * 1 + 2 * m * d) (d * 1)) (lowD (n * 1 + 2 * m * d) (d * 1)) 92 (by omega) (Rc.below B5) hdc).mono ?_; rintro e u6 ⟨v6, rfl, n6, f6⟩; have B6 := chain2 B5 f6; have n6 := n6.mono (show 92 + 8 ≤ 200 by decide))
        | (have gk := B4; go_at_call 12; refine (ncmp_any _ _ _ (n.fdiv d) (n.fdiv d) (max 200 200 + 1) 200 (by omega) (by omega) n3 n4).mono ?_; rintro e u5 ⟨rfl, f5⟩; have B5 := chain2 B4 f5; rw [cmpZ_self])
        | (have gk := B3; go_at_call 9; refine (qfloor_any _ _ n d 40 (by omega) (Ra.below B3) hd0).mono ?_; rintro e u4 ⟨v4, rfl, n4, f4⟩; have B4 := chain2 B3 f4; have n4 := n4.mono (show 40 + 6 ≤ 200 by decide); have n3 := n3.below f4)
        | (have gk := B2; go_at_call 10; refine (nsub_any _ _ _ _ m 200 200 (by omega) (by omega) n1 n2).mono ?_; rintro e u3 ⟨v3, rfl, n3, f3⟩; have B3 := chain2 B2 f3; rw [HF.out] at n3)
        | (have gk := B1; go_at_call 11; refine (nof_any _ m (by omega) (by omega)).mono ?_; rintro e u2 ⟨v2, rfl, n2, f2⟩; have B2 := chain2 B1 f2; have n2 := n2.mono (show 2 ≤ 200 by decide); have n1 := n1.below f2)
        | (have gk := B0; go_at_call 9; refine (qfloor_any _ _ (lowN (n * 1 + m * d) (d * 1)) (lowD (n * 1 + m * d) (d * 1)) 92 (by omega) (Rb.below B0) hdb).mono ?_; rintro e u1 ⟨v1, rfl, n1, f1⟩; have B1 := chain2 B0 f1; have n1 := n1.mono (show 92 + 6 ≤ 200 by decide)))
      go_wp2
      go_ret
      exact ⟨rfl, chain2 C1 B14⟩
    go_region_held3 (fun w' => w'.cell? ⟨k1, 0, none⟩ = some (.slice a1 l1 c1) ∧ w'.cell? ⟨k1, 1, none⟩ = some (.bool d1) ∧ w'.cell? ⟨k1, 2, none⟩ = some (.slice a2 l2 c2) ∧ w'.cell? ⟨k1, 3, none⟩ = some (.bool d2)) ((refine keep4' t0 t1 t2 t3 ?_; first | with_reducible exact B0 | with_reducible exact dbel1 V _ | with_reducible exact B1 | with_reducible exact B2 | with_reducible exact below_alloc' B1 (Nat.le_refl _) _ | with_reducible exact below_alloc' B2 (Nat.le_refl _) _ | with_reducible exact p4_below B2 B0.size _ _ _ _ | with_reducible exact p4_below B2 B1.size _ _ _ _ | with_reducible exact p4_below B2 (Nat.le_refl _) _ _ _ _)) (first
    | (have gk := B1; go_at_call 6; refine (qadd_any _ _ _ n d (2 * m) 1 40 (by omega) (by first | with_reducible exact Ra.below B1 | with_reducible exact Ra.below (below_alloc' B1 (Nat.le_refl _) _)) (by first | with_reducible exact R1 | with_reducible exact R1.below (below_alloc' (Below.refl _ _) (Nat.le_refl _) _)) hd1).mono ?_; rintro e wc2 ⟨v2, rfl, R2, hb2⟩; obtain ⟨a7, l7, c7, d7, a8, l8, c8, d8, rfl⟩ := rat_form R2; have B2 : Below V.heap.size V wc2 := (by first | with_reducible exact chain2 B1 hb2 | with_reducible exact chain2 (below_alloc' B1 (Nat.le_refl _) _) hb2); (try have z0 := (by with_reducible exact box_below hb2 (box_new wc1 (Obj.cells #[Value.slice none 0 0, Value.bool false, Value.slice none 0 0, Value.bool false] 29)) (lt_of_block (box_new wc1 (Obj.cells #[Value.slice none 0 0, Value.bool false, Value.slice none 0 0, Value.bool false] 29))))); (try have z0 := box_below hb2 z0 (lt_of_block z0)); (try have i0 := (four_cell z0).1); (try have i1 := (four_cell z0).2.1); (try have i2 := (four_cell z0).2.2.1); (try have i3 := (four_cell z0).2.2.2); (try have z4 := p4_free z0))
    | (have gk := B0; go_at_call 7; refine (qof_any _ (2 * m) (by omega) (by omega)).mono ?_; rintro e wc1 ⟨v1, rfl, R1, hb1⟩; have R1 := R1.mono (show 2 ≤ 40 by decide); have B1 : Below V.heap.size V wc1 := (by first | with_reducible exact chain2 B0 hb1 | with_reducible exact chain2 (dbel1 V _) hb1); (try have z0 : wc1.heap[V.heap.size]? = some (Obj.cells #[Value.slice none 0 0, Value.bool false, Value.slice none 0 0, Value.bool false] 29) := (by with_reducible exact box_below hb1 (dnew1 V (Obj.cells #[Value.slice none 0 0, Value.bool false, Value.slice none 0 0, Value.bool false] 29)) (lt_of_block (dnew1 V (Obj.cells #[Value.slice none 0 0, Value.bool false, Value.slice none 0 0, Value.bool false] 29)))))))
    all_goals change K2 _ _
    all_goals first | with_reducible exact tail2 _ _ _ _ _ _ _ _ _ _ _ _ _ _ _ _ _ _ _ _ _ _ _ _ _ _ _ _ _ _ _ _ _ _ _ _ (qend_set4 B2 z0 B1.size R2 _ _ _ _) | with_reducible exact tail2 _ _ _ _ _ _ _ _ _ _ _ _ _ _ _ _ _ _ _ _ _ _ _ _ _ _ _ _ _ _ _ _ _ _ _ _ (qend_set4 B2 z0 (Nat.le_refl _) R2 _ _ _ _) | with_reducible exact tail2 _ _ _ _ _ _ _ _ _ _ _ _ _ _ _ _ _ _ _ _ _ _ _ _ _ _ _ _ _ _ _ _ _ _ _ _ (qend_new4 B2 R2 _ _ _ _)
  go_region_held3 (fun w' => w'.cell? ⟨k1, 0, none⟩ = some (.slice a1 l1 c1) ∧ w'.cell? ⟨k1, 1, none⟩ = some (.bool d1) ∧ w'.cell? ⟨k1, 2, none⟩ = some (.slice a2 l2 c2) ∧ w'.cell? ⟨k1, 3, none⟩ = some (.bool d2)) ((refine keep4' t0 t1 t2 t3 ?_; first | with_reducible exact B0 | with_reducible exact dbel1 W1 _ | with_reducible exact B1 | with_reducible exact B2 | with_reducible exact below_alloc' B1 (Nat.le_refl _) _ | with_reducible exact below_alloc' B2 (Nat.le_refl _) _ | with_reducible exact p4_below B2 B0.size _ _ _ _ | with_reducible exact p4_below B2 B1.size _ _ _ _ | with_reducible exact p4_below B2 (Nat.le_refl _) _ _ _ _)) (first
    | (have gk := B1; go_at_call 6; refine (qadd_any _ _ _ n d m 1 40 (by omega) (by first | with_reducible exact Ra.below B1 | with_reducible exact Ra.below (below_alloc' B1 (Nat.le_refl _) _)) (by first | with_reducible exact R1 | with_reducible exact R1.below (below_alloc' (Below.refl _ _) (Nat.le_refl _) _)) hd1).mono ?_; rintro e wb2 ⟨v2, rfl, R2, hb2⟩; obtain ⟨a5, l5, c5, d5, a6, l6, c6, d6, rfl⟩ := rat_form R2; have B2 : Below W1.heap.size W1 wb2 := (by first | with_reducible exact chain2 B1 hb2 | with_reducible exact chain2 (below_alloc' B1 (Nat.le_refl _) _) hb2); (try have z0 := (by with_reducible exact box_below hb2 (box_new wb1 (Obj.cells #[Value.slice none 0 0, Value.bool false, Value.slice none 0 0, Value.bool false] 29)) (lt_of_block (box_new wb1 (Obj.cells #[Value.slice none 0 0, Value.bool false, Value.slice none 0 0, Value.bool false] 29))))); (try have z0 := box_below hb2 z0 (lt_of_block z0)); (try have i0 := (four_cell z0).1); (try have i1 := (four_cell z0).2.1); (try have i2 := (four_cell z0).2.2.1); (try have i3 := (four_cell z0).2.2.2); (try have z4 := p4_free z0))
    | (have gk := B0; go_at_call 7; refine (qof_any _ m (by omega) (by omega)).mono ?_; rintro e wb1 ⟨v1, rfl, R1, hb1⟩; have R1 := R1.mono (show 2 ≤ 40 by decide); have B1 : Below W1.heap.size W1 wb1 := (by first | with_reducible exact chain2 B0 hb1 | with_reducible exact chain2 (dbel1 W1 _) hb1); (try have z0 : wb1.heap[W1.heap.size]? = some (Obj.cells #[Value.slice none 0 0, Value.bool false, Value.slice none 0 0, Value.bool false] 29) := (by with_reducible exact box_below hb1 (dnew1 W1 (Obj.cells #[Value.slice none 0 0, Value.bool false, Value.slice none 0 0, Value.bool false] 29)) (lt_of_block (dnew1 W1 (Obj.cells #[Value.slice none 0 0, Value.bool false, Value.slice none 0 0, Value.bool false] 29)))))))
  all_goals change K1 _ _
  all_goals first | with_reducible exact tail1 _ _ _ _ _ _ _ _ _ _ _ _ _ _ _ _ _ _ _ _ _ _ _ _ _ _ _ _ _ _ _ _ (qend_set4 B2 z0 B1.size R2 _ _ _ _) | with_reducible exact tail1 _ _ _ _ _ _ _ _ _ _ _ _ _ _ _ _ _ _ _ _ _ _ _ _ _ _ _ _ _ _ _ _ (qend_set4 B2 z0 (Nat.le_refl _) R2 _ _ _ _) | with_reducible exact tail1 _ _ _ _ _ _ _ _ _ _ _ _ _ _ _ _ _ _ _ _ _ _ _ _ _ _ _ _ _ _ _ _ (qend_new4 B2 R2 _ _ _ _)
end Go.Proofs.YtjldlmonccgopaaGreatDoor
