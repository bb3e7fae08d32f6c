/- RatRounds: the law's walk. -/
import Derived.Test.YtjldlmonccgopaaGreatDoorZPPartsWalk
import Derived.Test.YtjldlmonccgopaaGreatDoorPk37
import Derived.Test.YtjldlmonccgopaaGreatDoorZTRound
import Derived.Test.YtjldlmonccgopaaGreatDoorZPRndMath
namespace Go.Proofs.YtjldlmonccgopaaGreatDoor
open Go.RowKit
set_option linter.unusedVariables false
set_option maxRecDepth 100000
set_option linter.unusedSimpArgs false
attribute [local go_sem ↓] Go.wp_at_zero Go.wp_at_succ

set_option maxHeartbeats 20000000 in
theorem qrounds_any (x : ByteArray) (w : World) (hm : Mx w) (htab : Tab w) :
    Calls Tryz.prog 4 #[.string x] w fun e w' => e = .returned (.bool true) ∧ Below w.heap.size w w' := by
  go_enter Tryz.func4, Tryz.ntmps4
  by_cases hs : 256 < x.size
  · go_wp2
    go_ret
    exact ⟨rfl, Below.refl _ _⟩
  go_wp2_with fail
  refine (number3_any x w (by omega) hm htab).mono ?_
  rintro e w1 ⟨⟨a1, l1, c1, d1, a2, l2, c2, d2, a3, l3, c3, d3, a4, l4, c4, d4, bb, rfl, F⟩, b1⟩
  have x1 := boxed2_first w1 (Obj.cells #[Value.slice a1 l1 c1, Value.bool d1, Value.slice a2 l2 c2, Value.bool d2] 29) (Obj.cells #[Value.bool d3, Value.slice a3 l3 c3, Value.bool d4, Value.slice a4 l4 c4] 36)
  have x2 := boxed2_second w1 (Obj.cells #[Value.slice a1 l1 c1, Value.bool d1, Value.slice a2 l2 c2, Value.bool d2] 29) (Obj.cells #[Value.bool d3, Value.slice a3 l3 c3, Value.bool d4, Value.slice a4 l4 c4] 36)
  have hB := boxed2 (Below.refl w1.heap.size w1) (Obj.cells #[Value.slice a1 l1 c1, Value.bool d1, Value.slice a2 l2 c2, Value.bool d2] 29) (Obj.cells #[Value.bool d3, Value.slice a3 l3 c3, Value.bool d4, Value.slice a4 l4 c4] 36)
  have C1 := chain2 b1 hB
  have T1 := htab.below C1
  have F := fun h => (show ∃ n d, Can x n d ∧ RatIs _ (.agg #[Value.slice a1 l1 c1, Value.bool d1, Value.slice a2 l2 c2, Value.bool d2]) n d 40 ∧ TRatIs _ (.agg #[Value.bool d3, Value.slice a3 l3 c3, Value.bool d4, Value.slice a4 l4 c4]) n d 40 from by
    obtain ⟨n, d, g1, g2, g3⟩ := F h
    exact ⟨n, d, g1, (g2.below hB).mono (by omega), (g3.below hB).mono (by omega)⟩)
  clear hB b1
  cases bb
  · clear F
    go_wp2
    go_ret
    exact ⟨rfl, C1⟩
  obtain ⟨n, d, hcan, Ra, Rr⟩ := F rfl
  clear F
  have hdp : 0 < d := by have := hcan.pos; omega
  have hd0 : d ≠ 0 := by omega
  have hd1 : d * 1 ≠ 0 := by omega
  have hDp : 0 < (lowD (n * 1 - rnd n d * d) (d * 1)) := by have := low_pos (x := n * 1 - rnd n d * d) hd1; omega
  have hdd : (lowD (n * 1 - rnd n d * d) (d * 1)) * (lowD (n * 1 - rnd n d * d) (d * 1)) ≠ 0 := Int.mul_ne_zero (by omega) (by omega)
  have H1 := hid (floor_under (n := n) hdp)
  have H2 := hid (floor_near (n := n) hdp)
  have H3 := hid (round_near (n := n) hdp)
  clear hcan
  obtain ⟨t0, t1, t2, t3⟩ := four_cell x1
  go_wp2_with fail
  generalize (w1.alloc (Obj.cells #[Value.slice a1 l1 c1, Value.bool d1, Value.slice a2 l2 c2, Value.bool d2] 29)).alloc (Obj.cells #[Value.bool d3, Value.slice a3 l3 c3, Value.bool d4, Value.slice a4 l4 c4] 36) = W1 at *
  generalize w1.heap.size = k1 at *
  refine (qfloor_any _ _ n d 40 (by omega) Ra hd0).mono ?_
  rintro e w2 ⟨v2, rfl, n2, f2⟩
  obtain ⟨a5, l5, c5, d5, rfl⟩ := num_form n2
  have A2 := (Below.refl w2.heap.size w2).alloc (Nat.le_refl _) (Obj.cells #[Value.slice a5 l5 c5, Value.bool d5] 27)
  have xf := box_new w2 (Obj.cells #[Value.slice a5 l5 c5, Value.bool d5] 27)
  have f2 := chain2 f2 A2
  have Nf := (n2.below A2).mono (show 40 + 6 ≤ 50 by decide)
  have x1 := box_below f2 x1 (lt_of_block x1)
  have x2 := box_below f2 x2 (lt_of_block x2)
  have C1 := chain2 C1 f2
  have T1 := T1.below f2
  have Ra := Ra.below f2
  have Rr := Rr.below f2
  clear f2 A2 n2 t0 t1 t2 t3
  obtain ⟨t0, t1, t2, t3⟩ := four_cell x1
  go_wp2_with fail
  generalize w2.alloc (Obj.cells #[Value.slice a5 l5 c5, Value.bool d5] 27) = W2 at *
  generalize w2.heap.size = kf at *
  refine (qround_any _ _ n d 40 (by omega) Ra hd0).mono ?_
  rintro e w3 ⟨v3, rfl, n3, f3⟩
  obtain ⟨a6, l6, c6, d6, rfl⟩ := num_form n3
  have A3 := (Below.refl w3.heap.size w3).alloc (Nat.le_refl _) (Obj.cells #[Value.slice a6 l6 c6, Value.bool d6] 27)
  have xn := box_new w3 (Obj.cells #[Value.slice a6 l6 c6, Value.bool d6] 27)
  have f3 := chain2 f3 A3
  have Nn := (n3.below A3).mono (show 40 + 8 ≤ 50 by decide)
  have x1 := box_below f3 x1 (lt_of_block x1)
  have x2 := box_below f3 x2 (lt_of_block x2)
  have xf := box_below f3 xf (lt_of_block xf)
  have C1 := chain2 C1 f3
  have T1 := T1.below f3
  have Ra := Ra.below f3
  have Rr := Rr.below f3
  have Nf := Nf.below f3
  clear f3 A3 n3 t0 t1 t2 t3
  have e0 := two_cell0 xf
  have e1 := two_cell1 xf
  have o0 := two_cell0 xn
  have o1 := two_cell1 xn
  obtain ⟨r0, r1, r2, r3⟩ := four_cell x2
  go_wp2_with fail
  generalize w3.alloc (Obj.cells #[Value.slice a6 l6 c6, Value.bool d6] 27) = W3 at *
  generalize w3.heap.size = kn at *
  have B0 : Below W3.heap.size W3 W3.drew := (Below.refl _ _).drew
  have KP : ∀ w' : World, Below W3.heap.size W3 w' → (w'.cell? ⟨kf, 0, none⟩ = some (.slice a5 l5 c5) ∧ w'.cell? ⟨kf, 1, none⟩ = some (.bool d5) ∧ w'.cell? ⟨kn, 0, none⟩ = some (.slice a6 l6 c6) ∧ w'.cell? ⟨kn, 1, none⟩ = some (.bool d6) ∧ w'.cell? ⟨k1 + 1, 0, none⟩ = some (.bool d3) ∧ w'.cell? ⟨k1 + 1, 1, none⟩ = some (.slice a3 l3 c3) ∧ w'.cell? ⟨k1 + 1, 2, none⟩ = some (.bool d4) ∧ w'.cell? ⟨k1 + 1, 3, none⟩ = some (.slice a4 l4 c4)) := fun w' hb => ⟨kc hb e0, kc hb e1, kc hb o0, kc hb o1, kc hb r0, kc hb r1, kc hb r2, kc hb r3⟩
  rename_i K10 hK10
  go_region_held3 (fun w' => w'.cell? ⟨kf, 0, none⟩ = some (.slice a5 l5 c5) ∧ w'.cell? ⟨kf, 1, none⟩ = some (.bool d5) ∧ w'.cell? ⟨kn, 0, none⟩ = some (.slice a6 l6 c6) ∧ w'.cell? ⟨kn, 1, none⟩ = some (.bool d6) ∧ w'.cell? ⟨k1 + 1, 0, none⟩ = some (.bool d3) ∧ w'.cell? ⟨k1 + 1, 1, none⟩ = some (.slice a3 l3 c3) ∧ w'.cell? ⟨k1 + 1, 2, none⟩ = some (.bool d4) ∧ w'.cell? ⟨k1 + 1, 3, none⟩ = some (.slice a4 l4 c4)) ((first | with_reducible exact KP _ B0 | with_reducible exact KP _ B1 | with_reducible exact KP _ B2 | with_reducible exact KP _ B3 | with_reducible exact KP _ B4 | with_reducible exact KP _ B5 | with_reducible exact KP _ B6)) (first
    | (have gk := B5; go_at_call 17; refine (stext_any _ _ (rnd n d) (40 + 8) (by omega) n5).mono ?_; rintro e u6 ⟨⟨s6, rfl, y6⟩, f6⟩; have B6 := chain2 B5 f6; rw [y6.inj y4])
    | (have gk := B4; go_at_call 18; refine (tround_any _ _ n d 40 (by omega) (Rr.below B4) hdp).mono ?_; rintro e u5 ⟨v5, rfl, n5, f5⟩; have B5 := chain2 B4 f5)
    | (have gk := B3; go_at_call 15; refine (ntext_any _ _ (rnd n d) 50 (by omega) (Nn.below B3) (T1.below B3)).mono ?_; rintro e u4 ⟨⟨s4, rfl, y4⟩, f4⟩; have B4 := chain2 B3 f4)
    | (have gk := B2; go_at_call 17; refine (stext_any _ _ (n.fdiv d) (40 + 7) (by omega) n2).mono ?_; rintro e u3 ⟨⟨s3, rfl, y3⟩, f3⟩; have B3 := chain2 B2 f3; rw [y3.inj y1])
    | (have gk := B1; go_at_call 16; refine (tfloor_any _ _ n d 40 (by omega) (Rr.below B1) hd0).mono ?_; rintro e u2 ⟨v2, rfl, n2, f2⟩; have B2 := chain2 B1 f2)
    | (have gk := B0; go_at_call 15; refine (ntext_any _ _ (n.fdiv d) 50 (by omega) (Nf.below B0) (T1.below B0)).mono ?_; rintro e u1 ⟨⟨s1, rfl, y1⟩, f1⟩; have B1 := chain2 B0 f1))
  change K10 _ _
  refine hK10 _ _ ?_
  have x1 := box_below B6 x1 (lt_of_block x1)
  have e0 := kc B6 e0
  have e1 := kc B6 e1
  have o0 := kc B6 o0
  have o1 := kc B6 o1
  have Nf := Nf.below B6
  have Nn := Nn.below B6
  have Ra := Ra.below B6
  have C1 := chain2 C1 B6
  clear hK10 KP B0 B1 B2 B3 B4 B5 B6 f1 f2 f3 f4 f5 f6 y1 y3 y4 y6 n2 n5 x2 xf xn r0 r1 r2 r3 Rr T1
  go_wp2_with fail
  have B0 : Below u6.heap.size u6 u6.drew := (Below.refl _ _).drew
  rename_i K1 hK1
  have tail1 : ∀ (V : World) (g : Nat) (a7 : Option Addr) (l7 c7 : Nat) (d7 : Bool) (a8 : Option Addr) (l8 c8 : Nat) (d8 : Bool) (p14 p15 p16 p17 p18 p19 p20 p21 p22 p23 p24 p25 p26 p27 p28 p29 p30 p31 p32 p33 p34 p35 p36 p37 p38 p39 p40 p41 p42 p43 p44 p45 p46 p47 p48 p49 p50 p51 : Value), (Below u6.heap.size u6 V ∧ V.heap[g]? = some (Obj.cells #[Value.slice a7 l7 c7, Value.bool d7, Value.slice a8 l8 c8, Value.bool d8] 29 (0, 0)) ∧ u6.heap.size ≤ g ∧ RatIs V (Value.agg #[Value.slice a7 l7 c7, Value.bool d7, Value.slice a8 l8 c8, Value.bool d8]) (n.fdiv d) 1 (50 + 6)) → K1 { tmps := #[Value.string x, undef, Value.bool false, Value.pointer (some { block := k1, off := 0 }), Value.pointer (some { block := k1 + 1, off := 0 }), Value.bool true, Value.bool true, Value.pointer (some { block := kf, off := 0 }), Value.pointer (some { block := kn, off := 0 }), Value.pointer (some { block := g, off := 0 }), Value.int IntKind.i64 0, undef, undef, undef, p14, p15, p16, p17, p18, p19, p20, p21, p22, p23, p24, p25, p26, p27, p28, p29, p30, p31, p32, p33, p34, p35, p36, p37, p38, p39, p40, p41, p42, p43, p44, p45, p46, p47, p48, p49, p50, p51, undef, undef, undef, undef, undef, undef, undef, undef, undef, undef, undef, undef, undef, undef, undef, undef, undef, undef, undef, undef, undef, undef, undef, undef, undef, undef, undef, undef, undef, undef, undef, undef, undef, undef], defers := [] } V := by
    rintro V g a7 l7 c7 d7 a8 l8 c8 d8 p14 p15 p16 p17 p18 p19 p20 p21 p22 p23 p24 p25 p26 p27 p28 p29 p30 p31 p32 p33 p34 p35 p36 p37 p38 p39 p40 p41 p42 p43 p44 p45 p46 p47 p48 p49 p50 p51 ⟨bV, gV, hg, Rg⟩
    refine hK1 _ _ ?_
    clear hK1 B0 e0 e1 Nf
    have x1 := box_below bV x1 (lt_of_block x1)
    have C1 := chain2 C1 bV
    have Ra := Ra.below bV
    have Nn := Nn.below bV
    have o0 := kc bV o0
    have o1 := kc bV o1
    clear bV hg
    go_wp2_with fail
    have B0 : Below V.heap.size V V.drew := (Below.refl _ _).drew
    rename_i K2 hK2
    have tail2 : ∀ (U : World) (h : Nat) (a9 : Option Addr) (l9 c9 : Nat) (d9 : Bool) (a10 : Option Addr) (l10 c10 : Nat) (d10 : Bool) (q14 q15 q16 q17 q18 q19 q20 q21 q22 q23 q24 q25 q26 q27 q28 q29 q30 q31 q32 q33 q34 q35 q36 q37 q38 q39 q40 q41 q42 q43 q44 q45 q46 q47 q48 q49 q50 q51 q52 q53 q54 q55 q56 q57 : Value), (Below V.heap.size V U ∧ U.heap[h]? = some (Obj.cells #[Value.slice a9 l9 c9, Value.bool d9, Value.slice a10 l10 c10, Value.bool d10] 29 (0, 0)) ∧ V.heap.size ≤ h ∧ RatIs U (Value.agg #[Value.slice a9 l9 c9, Value.bool d9, Value.slice a10 l10 c10, Value.bool d10]) (rnd n d) 1 (50 + 6)) → K2 { tmps := #[Value.string x, undef, Value.bool false, Value.pointer (some { block := k1, off := 0 }), Value.pointer (some { block := k1 + 1, off := 0 }), Value.bool true, Value.bool true, Value.pointer (some { block := kf, off := 0 }), Value.pointer (some { block := kn, off := 0 }), Value.pointer (some { block := g, off := 0 }), Value.int IntKind.i64 0, Value.pointer (some { block := h, off := 0 }), Value.int IntKind.i64 0, undef, q14, q15, q16, q17, q18, q19, q20, q21, q22, q23, q24, q25, q26, q27, q28, q29, q30, q31, q32, q33, q34, q35, q36, q37, q38, q39, q40, q41, q42, q43, q44, q45, q46, q47, q48, q49, q50, q51, q52, q53, q54, q55, q56, q57, undef, undef, undef, undef, undef, undef, undef, undef, undef, undef, undef, undef, undef, undef, undef, undef, undef, undef, undef, undef, undef, undef, undef, undef, undef, undef, undef, undef], defers := [] } U := by
      rintro U h a9 l9 c9 d9 a10 l10 c10 d10 q14 q15 q16 q17 q18 q19 q20 q21 q22 q23 q24 q25 q26 q27 q28 q29 q30 q31 q32 q33 q34 q35 q36 q37 q38 q39 q40 q41 q42 q43 q44 q45 q46 q47 q48 q49 q50 q51 q52 q53 q54 q55 q56 q57 ⟨bV, hV, hg, Rh⟩
      refine hK2 _ _ ?_
      clear hK2 B0 o0 o1 Nn
      have x1 := box_below bV x1 (lt_of_block x1)
      have gV := box_below bV gV (lt_of_block gV)
      have C1 := chain2 C1 bV
      have Ra := (Ra.below bV).mono (show 40 ≤ 60 by decide)
      have Rg := (Rg.below bV).mono (show 50 + 6 ≤ 60 by decide)
      have Rh := Rh.mono (show 50 + 6 ≤ 60 by decide)
      clear bV hg
      obtain ⟨t0, t1, t2, t3⟩ := four_cell x1
      obtain ⟨h0, h1, h2, h3⟩ := four_cell hV
      go_wp2_with fail
      refine (qsub_any _ _ _ n d (rnd n d) 1 60 (by omega) Ra Rh hd1).mono ?_
      rintro e v0 ⟨vd, rfl, R0, f0⟩
      obtain ⟨a11, l11, c11, d11, a12, l12, c12, d12, rfl⟩ := rat_form R0
      have A0 := (Below.refl v0.heap.size v0).alloc (Nat.le_refl _) (Obj.cells #[Value.slice a11 l11 c11, Value.bool d11, Value.slice a12 l12 c12, Value.bool d12] 29)
      have dV := box_new v0 (Obj.cells #[Value.slice a11 l11 c11, Value.bool d11, Value.slice a12 l12 c12, Value.bool d12] 29)
      have hgd : g ≠ v0.heap.size := Nat.ne_of_lt (lt_of_block (box_below f0 gV (lt_of_block gV)))
      have hkd : k1 ≠ v0.heap.size := Nat.ne_of_lt (lt_of_block (box_below f0 x1 (lt_of_block x1)))
      have hwd : w.heap.size ≤ v0.heap.size := (chain2 C1 f0).size
      have f0 := chain2 f0 A0
      have RD := R0.below A0
      have x1 := box_below f0 x1 (lt_of_block x1)
      have gV := box_below f0 gV (lt_of_block gV)
      have C1 := chain2 C1 f0
      have Ra := Ra.below f0
      have Rg := Rg.below f0
      clear f0 A0 R0 t0 t1 t2 t3 h0 h1 h2 h3 hV Rh
      obtain ⟨e0, e1, e2, e3⟩ := four_cell dV
      go_wp2_with fail
      generalize v0.alloc (Obj.cells #[Value.slice a11 l11 c11, Value.bool d11, Value.slice a12 l12 c12, Value.bool d12] 29) = S at *
      generalize v0.heap.size = kd at *
      refine (qsign_any _ _ (lowN (n * 1 - rnd n d * d) (d * 1)) (lowD (n * 1 - rnd n d * d) (d * 1)) (2 * 60 + 12) (by omega) RD).mono ?_
      rintro e S1 ⟨rfl, f1⟩
      have x1 := box_below f1 x1 (lt_of_block x1)
      have gV := box_below f1 gV (lt_of_block gV)
      have dV := box_below f1 dV (lt_of_block dV)
      have C1 := chain2 C1 f1
      have Ra := Ra.below f1
      have Rg := Rg.below f1
      have RD := RD.below f1
      clear f1 e0 e1 e2 e3
      by_cases hsg : (lowN (n * 1 - rnd n d * d) (d * 1)) < 0
      · rw [show signZ (lowN (n * 1 - rnd n d * d) (d * 1)) = -1 by unfold signZ; rw [if_pos hsg]]
        clear hsg
        obtain ⟨e0, e1, e2, e3⟩ := four_cell dV
        go_wp2_with fail
        refine (qneg_any _ _ (lowN (n * 1 - rnd n d * d) (d * 1)) (lowD (n * 1 - rnd n d * d) (d * 1)) (2 * 60 + 12) (by omega) RD).mono ?_
        rintro e S2 ⟨v2, rfl, R2, f2⟩
        obtain ⟨a13, l13, c13, d13, a14, l14, c14, d14, rfl⟩ := rat_form R2
        have x1 := box_below f2 x1 (lt_of_block x1)
        have gV := box_below f2 gV (lt_of_block gV)
        have dV := box_below f2 dV (lt_of_block dV)
        have C1 := p4_below (chain2 C1 f2) hwd (.slice a13 l13 c13) (.bool d13) (.slice a14 l14 c14) (.bool d14)
        have Ra := (Ra.below f2).set dV (p4_other (.slice a13 l13 c13) (.bool d13) (.slice a14 l14 c14) (.bool d14))
        have Rg := (Rg.below f2).set dV (p4_other (.slice a13 l13 c13) (.bool d13) (.slice a14 l14 c14) (.bool d14))
        have RD := (R2.set dV (p4_other (.slice a13 l13 c13) (.bool d13) (.slice a14 l14 c14) (.bool d14))).mono (show 2 * 60 + 12 + 1 ≤ 140 by decide)
        have x1 := (p4_other (.slice a13 l13 c13) (.bool d13) (.slice a14 l14 c14) (.bool d14) k1 hkd).trans x1
        have gV := (p4_other (.slice a13 l13 c13) (.bool d13) (.slice a14 l14 c14) (.bool d14) g hgd).trans gV
        obtain ⟨i0, i1, i2, i3⟩ := four_cell dV
        have fr := p4_free dV
        have dV := p4_set dV (.slice a13 l13 c13) (.bool d13) (.slice a14 l14 c14) (.bool d14)
        clear f2 e0 e1 e2 e3 R2
        obtain ⟨t0, t1, t2, t3⟩ := four_cell x1
        obtain ⟨g0, g1, g2, g3⟩ := four_cell gV
        obtain ⟨e0, e1, e2, e3⟩ := four_cell dV
        clear x1 gV dV
        go_wp2_with fail
        refine (qcmp_any _ _ _ (n.fdiv d) 1 n d 60 (by omega) Rg Ra).mono ?_
        rintro e s1 ⟨rfl, f1⟩
        obtain ⟨y1, hy1⟩ : ∃ z, cmpZ (n.fdiv d * d) (n * 1) = z := ⟨_, rfl⟩
        have hz1 : y1 ≤ 0 := by rw [← hy1]; exact H1.out
        rw [hy1]
        clear hy1 H1
        have t0 := kc f1 t0
        have t1 := kc f1 t1
        have t2 := kc f1 t2
        have t3 := kc f1 t3
        have g0 := kc f1 g0
        have g1 := kc f1 g1
        have g2 := kc f1 g2
        have g3 := kc f1 g3
        have e0 := kc f1 e0
        have e1 := kc f1 e1
        have e2 := kc f1 e2
        have e3 := kc f1 e3
        have Ra := Ra.below f1
        have Rg := Rg.below f1
        have RD := RD.below f1
        have C1 := chain2 C1 f1
        clear f1
        go_wp2_with fail
        refine (qsub_any _ _ _ n d (n.fdiv d) 1 60 (by omega) Ra Rg hd1).mono ?_
        rintro e s2 ⟨v2, rfl, R2, f2⟩
        have e0 := kc f2 e0
        have e1 := kc f2 e1
        have e2 := kc f2 e2
        have e3 := kc f2 e3
        have RD := RD.below f2
        have C1 := chain2 C1 f2
        clear f2 t0 t1 t2 t3 g0 g1 g2 g3 Ra Rg
        go_wp2_with fail
        refine (qof_any _ 1 (by decide) (by decide)).mono ?_
        rintro e s3 ⟨v3, rfl, R3, f3⟩
        have e0 := kc f3 e0
        have e1 := kc f3 e1
        have e2 := kc f3 e2
        have e3 := kc f3 e3
        have RD := RD.below f3
        have R2 := R2.below f3
        have C1 := chain2 C1 f3
        clear f3
        go_wp2_with fail
        refine (qcmp_any _ _ _ _ _ 1 1 (2 * 60 + 12) (by omega) R2 (R3.mono (by omega))).mono ?_
        rintro e s4 ⟨rfl, f4⟩
        obtain ⟨y2, hy2⟩ : ∃ z, cmpZ (lowN (n * 1 - n.fdiv d * d) (d * 1) * 1) (1 * lowD (n * 1 - n.fdiv d * d) (d * 1)) = z := ⟨_, rfl⟩
        have hz2 : y2 < 0 := by rw [← hy2]; exact H2.out
        rw [hy2]
        clear hy2 H2 R2 R3
        have e0 := kc f4 e0
        have e1 := kc f4 e1
        have e2 := kc f4 e2
        have e3 := kc f4 e3
        have RD := RD.below f4
        have C1 := chain2 C1 f4
        clear f4
        go_wp2_with fail
        refine (qadd_any _ _ _ (-(lowN (n * 1 - rnd n d * d) (d * 1))) (lowD (n * 1 - rnd n d * d) (d * 1)) (-(lowN (n * 1 - rnd n d * d) (d * 1))) (lowD (n * 1 - rnd n d * d) (d * 1)) 140 (by omega) RD RD hdd).mono ?_
        rintro e s5 ⟨v5, rfl, R5, f5⟩
        have C1 := chain2 C1 f5
        clear f5 e0 e1 e2 e3 RD
        go_wp2_with fail
        refine (qof_any _ 1 (by decide) (by decide)).mono ?_
        rintro e s6 ⟨v6, rfl, R6, f6⟩
        have R5 := R5.below f6
        have C1 := chain2 C1 f6
        clear f6
        go_wp2_with fail
        refine (qcmp_any _ _ _ _ _ 1 1 (2 * 140 + 12) (by omega) R5 (R6.mono (by omega))).mono ?_
        rintro e s7 ⟨rfl, f7⟩
        obtain ⟨y3, hy3⟩ : ∃ z, cmpZ (lowN ((-(lowN (n * 1 - rnd n d * d) (d * 1))) * (lowD (n * 1 - rnd n d * d) (d * 1)) + (-(lowN (n * 1 - rnd n d * d) (d * 1))) * (lowD (n * 1 - rnd n d * d) (d * 1))) ((lowD (n * 1 - rnd n d * d) (d * 1)) * (lowD (n * 1 - rnd n d * d) (d * 1))) * 1) (1 * lowD ((-(lowN (n * 1 - rnd n d * d) (d * 1))) * (lowD (n * 1 - rnd n d * d) (d * 1)) + (-(lowN (n * 1 - rnd n d * d) (d * 1))) * (lowD (n * 1 - rnd n d * d) (d * 1))) ((lowD (n * 1 - rnd n d * d) (d * 1)) * (lowD (n * 1 - rnd n d * d) (d * 1)))) = z := ⟨_, rfl⟩
        have hz3 : y3 ≤ 0 := by rw [← hy3]; exact twice_near hDp H3.out.2
        rw [hy3]
        clear hy3 R5 R6
        have C1 := chain2 C1 f7
        clear f7
        go_wp2
        go_ret
        exact ⟨rfl, C1⟩
      · obtain ⟨sg, hsg2⟩ : ∃ z, signZ (lowN (n * 1 - rnd n d * d) (d * 1)) = z := ⟨_, rfl⟩
        have hsg3 : ¬ sg < 0 := by rw [← hsg2]; unfold signZ; rw [if_neg hsg]; split <;> omega
        rw [hsg2]
        clear hsg hsg2
        have RD := RD.mono (show 2 * 60 + 12 ≤ 140 by decide)
        obtain ⟨t0, t1, t2, t3⟩ := four_cell x1
        obtain ⟨g0, g1, g2, g3⟩ := four_cell gV
        obtain ⟨e0, e1, e2, e3⟩ := four_cell dV
        clear x1 gV dV
        go_wp2_with fail
        refine (qcmp_any _ _ _ (n.fdiv d) 1 n d 60 (by omega) Rg Ra).mono ?_
        rintro e s1 ⟨rfl, f1⟩
        obtain ⟨y1, hy1⟩ : ∃ z, cmpZ (n.fdiv d * d) (n * 1) = z := ⟨_, rfl⟩
        have hz1 : y1 ≤ 0 := by rw [← hy1]; exact H1.out
        rw [hy1]
        clear hy1 H1
        have t0 := kc f1 t0
        have t1 := kc f1 t1
        have t2 := kc f1 t2
        have t3 := kc f1 t3
        have g0 := kc f1 g0
        have g1 := kc f1 g1
        have g2 := kc f1 g2
        have g3 := kc f1 g3
        have e0 := kc f1 e0
        have e1 := kc f1 e1
        have e2 := kc f1 e2
        have e3 := kc f1 e3
        have Ra := Ra.below f1
        have Rg := Rg.below f1
        have RD := RD.below f1
        have C1 := chain2 C1 f1
        clear f1
        go_wp2_with fail
        refine (qsub_any _ _ _ n d (n.fdiv d) 1 60 (by omega) Ra Rg hd1).mono ?_
        rintro e s2 ⟨v2, rfl, R2, f2⟩
        have e0 := kc f2 e0
        have e1 := kc f2 e1
        have e2 := kc f2 e2
        have e3 := kc f2 e3
        have RD := RD.below f2
        have C1 := chain2 C1 f2
        clear f2 t0 t1 t2 t3 g0 g1 g2 g3 Ra Rg
        go_wp2_with fail
        refine (qof_any _ 1 (by decide) (by decide)).mono ?_
        rintro e s3 ⟨v3, rfl, R3, f3⟩
        have e0 := kc f3 e0
        have e1 := kc f3 e1
        have e2 := kc f3 e2
        have e3 := kc f3 e3
        have RD := RD.below f3
        have R2 := R2.below f3
        have C1 := chain2 C1 f3
        clear f3
        go_wp2_with fail
        refine (qcmp_any _ _ _ _ _ 1 1 (2 * 60 + 12) (by omega) R2 (R3.mono (by omega))).mono ?_
        rintro e s4 ⟨rfl, f4⟩
        obtain ⟨y2, hy2⟩ : ∃ z, cmpZ (lowN (n * 1 - n.fdiv d * d) (d * 1) * 1) (1 * lowD (n * 1 - n.fdiv d * d) (d * 1)) = z := ⟨_, rfl⟩
        have hz2 : y2 < 0 := by rw [← hy2]; exact H2.out
        rw [hy2]
        clear hy2 H2 R2 R3
        have e0 := kc f4 e0
        have e1 := kc f4 e1
        have e2 := kc f4 e2
        have e3 := kc f4 e3
        have RD := RD.below f4
        have C1 := chain2 C1 f4
        clear f4
        go_wp2_with fail
        refine (qadd_any _ _ _ (lowN (n * 1 - rnd n d * d) (d * 1)) (lowD (n * 1 - rnd n d * d) (d * 1)) (lowN (n * 1 - rnd n d * d) (d * 1)) (lowD (n * 1 - rnd n d * d) (d * 1)) 140 (by omega) RD RD hdd).mono ?_
        rintro e s5 ⟨v5, rfl, R5, f5⟩
        have C1 := chain2 C1 f5
        clear f5 e0 e1 e2 e3 RD
        go_wp2_with fail
        refine (qof_any _ 1 (by decide) (by decide)).mono ?_
        rintro e s6 ⟨v6, rfl, R6, f6⟩
        have R5 := R5.below f6
        have C1 := chain2 C1 f6
        clear f6
        go_wp2_with fail
        refine (qcmp_any _ _ _ _ _ 1 1 (2 * 140 + 12) (by omega) R5 (R6.mono (by omega))).mono ?_
        rintro e s7 ⟨rfl, f7⟩
        obtain ⟨y3, hy3⟩ : ∃ z, cmpZ (lowN ((lowN (n * 1 - rnd n d * d) (d * 1)) * (lowD (n * 1 - rnd n d * d) (d * 1)) + (lowN (n * 1 - rnd n d * d) (d * 1)) * (lowD (n * 1 - rnd n d * d) (d * 1))) ((lowD (n * 1 - rnd n d * d) (d * 1)) * (lowD (n * 1 - rnd n d * d) (d * 1))) * 1) (1 * lowD ((lowN (n * 1 - rnd n d * d) (d * 1)) * (lowD (n * 1 - rnd n d * d) (d * 1)) + (lowN (n * 1 - rnd n d * d) (d * 1)) * (lowD (n * 1 - rnd n d * d) (d * 1))) ((lowD (n * 1 - rnd n d * d) (d * 1)) * (lowD (n * 1 - rnd n d * d) (d * 1)))) = z := ⟨_, rfl⟩
        have hz3 : y3 ≤ 0 := by rw [← hy3]; exact twice_near hDp H3.out.1
        rw [hy3]
        clear hy3 R5 R6
        have C1 := chain2 C1 f7
        clear f7
        go_wp2
        go_ret
        exact ⟨rfl, C1⟩
    go_region_held3 (fun w' => w'.cell? ⟨kn, 0, none⟩ = some (.slice a6 l6 c6) ∧ w'.cell? ⟨kn, 1, none⟩ = some (.bool d6)) ((refine keep2 o0 o1 ?_; first | with_reducible exact B0 | with_reducible exact dbel1 V _ | with_reducible exact B1 | with_reducible exact B2 | with_reducible exact below_alloc' B1 (Nat.le_refl _) _ | with_reducible exact below_alloc' B2 (Nat.le_refl _) _ | with_reducible exact p4_below B2 B0.size _ _ _ _ | with_reducible exact p4_below B2 B1.size _ _ _ _ | with_reducible exact p4_below B2 (Nat.le_refl _) _ _ _ _)) (first
    | (have gk := B1; go_at_call 19; refine (qmake_any _ _ _ (rnd n d) 1 50 (by omega) (by first | with_reducible exact Nn.below B1 | with_reducible exact Nn.below (below_alloc' B1 (Nat.le_refl _) _)) (by first | with_reducible exact R1 | with_reducible exact R1.below (below_alloc' (Below.refl _ _) (Nat.le_refl _) _))).mono ?_; rintro e wc2 ⟨⟨a9, l9, c9, d9, a10, l10, c10, d10, rfl, R2⟩, hb2⟩; rw [(make_whole _).1, (make_whole _).2.1] at R2; rw [(make_whole 0).2.2]; have B2 : Below V.heap.size V wc2 := (by first | with_reducible exact chain2 B1 hb2 | with_reducible exact chain2 (below_alloc' B1 (Nat.le_refl _) _) hb2); (try have z0 := (by with_reducible exact box_below hb2 (box_new wc1 (Obj.cells #[Value.slice none 0 0, Value.bool false, Value.slice none 0 0, Value.bool false] 29)) (lt_of_block (box_new wc1 (Obj.cells #[Value.slice none 0 0, Value.bool false, Value.slice none 0 0, Value.bool false] 29))))); (try have z0 := box_below hb2 z0 (lt_of_block z0)); (try have i0 := (four_cell z0).1); (try have i1 := (four_cell z0).2.1); (try have i2 := (four_cell z0).2.2.1); (try have i3 := (four_cell z0).2.2.2); (try have z4 := p4_free z0))
    | (have gk := B0; go_at_call 11; refine (nof_any _ 1 (by decide) (by decide)).mono ?_; rintro e wc1 ⟨v1, rfl, R1, hb1⟩; have R1 := R1.mono (show 2 ≤ 50 by decide); have B1 : Below V.heap.size V wc1 := (by first | with_reducible exact chain2 B0 hb1 | with_reducible exact chain2 (dbel1 V _) hb1); (try have z0 : wc1.heap[V.heap.size]? = some (Obj.cells #[Value.slice none 0 0, Value.bool false, Value.slice none 0 0, Value.bool false] 29) := (by with_reducible exact box_below hb1 (dnew1 V (Obj.cells #[Value.slice none 0 0, Value.bool false, Value.slice none 0 0, Value.bool false] 29)) (lt_of_block (dnew1 V (Obj.cells #[Value.slice none 0 0, Value.bool false, Value.slice none 0 0, Value.bool false] 29)))))))
    all_goals change K2 _ _
    all_goals first | with_reducible exact tail2 _ _ _ _ _ _ _ _ _ _ _ _ _ _ _ _ _ _ _ _ _ _ _ _ _ _ _ _ _ _ _ _ _ _ _ _ _ _ _ _ _ _ _ _ _ _ _ _ _ _ _ _ _ _ (qend_set4 B2 z0 B1.size R2 _ _ _ _) | with_reducible exact tail2 _ _ _ _ _ _ _ _ _ _ _ _ _ _ _ _ _ _ _ _ _ _ _ _ _ _ _ _ _ _ _ _ _ _ _ _ _ _ _ _ _ _ _ _ _ _ _ _ _ _ _ _ _ _ (qend_set4 B2 z0 (Nat.le_refl _) R2 _ _ _ _) | with_reducible exact tail2 _ _ _ _ _ _ _ _ _ _ _ _ _ _ _ _ _ _ _ _ _ _ _ _ _ _ _ _ _ _ _ _ _ _ _ _ _ _ _ _ _ _ _ _ _ _ _ _ _ _ _ _ _ _ (qend_new4 B2 R2 _ _ _ _)
  go_region_held3 (fun w' => w'.cell? ⟨kf, 0, none⟩ = some (.slice a5 l5 c5) ∧ w'.cell? ⟨kf, 1, none⟩ = some (.bool d5)) ((refine keep2 e0 e1 ?_; first | with_reducible exact B0 | with_reducible exact dbel1 u6 _ | with_reducible exact B1 | with_reducible exact B2 | with_reducible exact below_alloc' B1 (Nat.le_refl _) _ | with_reducible exact below_alloc' B2 (Nat.le_refl _) _ | with_reducible exact p4_below B2 B0.size _ _ _ _ | with_reducible exact p4_below B2 B1.size _ _ _ _ | with_reducible exact p4_below B2 (Nat.le_refl _) _ _ _ _)) (first
    | (have gk := B1; go_at_call 19; refine (qmake_any _ _ _ (n.fdiv d) 1 50 (by omega) (by first | with_reducible exact Nf.below B1 | with_reducible exact Nf.below (below_alloc' B1 (Nat.le_refl _) _)) (by first | with_reducible exact R1 | with_reducible exact R1.below (below_alloc' (Below.refl _ _) (Nat.le_refl _) _))).mono ?_; rintro e wb2 ⟨⟨a7, l7, c7, d7, a8, l8, c8, d8, rfl, R2⟩, hb2⟩; rw [(make_whole _).1, (make_whole _).2.1] at R2; rw [(make_whole 0).2.2]; have B2 : Below u6.heap.size u6 wb2 := (by first | with_reducible exact chain2 B1 hb2 | with_reducible exact chain2 (below_alloc' B1 (Nat.le_refl _) _) hb2); (try have z0 := (by with_reducible exact box_below hb2 (box_new wb1 (Obj.cells #[Value.slice none 0 0, Value.bool false, Value.slice none 0 0, Value.bool false] 29)) (lt_of_block (box_new wb1 (Obj.cells #[Value.slice none 0 0, Value.bool false, Value.slice none 0 0, Value.bool false] 29))))); (try have z0 := box_below hb2 z0 (lt_of_block z0)); (try have i0 := (four_cell z0).1); (try have i1 := (four_cell z0).2.1); (try have i2 := (four_cell z0).2.2.1); (try have i3 := (four_cell z0).2.2.2); (try have z4 := p4_free z0))
    | (have gk := B0; go_at_call 11; refine (nof_any _ 1 (by decide) (by decide)).mono ?_; rintro e wb1 ⟨v1, rfl, R1, hb1⟩; have R1 := R1.mono (show 2 ≤ 50 by decide); have B1 : Below u6.heap.size u6 wb1 := (by first | with_reducible exact chain2 B0 hb1 | with_reducible exact chain2 (dbel1 u6 _) hb1); (try have z0 : wb1.heap[u6.heap.size]? = some (Obj.cells #[Value.slice none 0 0, Value.bool false, Value.slice none 0 0, Value.bool false] 29) := (by with_reducible exact box_below hb1 (dnew1 u6 (Obj.cells #[Value.slice none 0 0, Value.bool false, Value.slice none 0 0, Value.bool false] 29)) (lt_of_block (dnew1 u6 (Obj.cells #[Value.slice none 0 0, Value.bool false, Value.slice none 0 0, Value.bool false] 29)))))))
  all_goals change K1 _ _
  all_goals first | with_reducible exact tail1 _ _ _ _ _ _ _ _ _ _ _ _ _ _ _ _ _ _ _ _ _ _ _ _ _ _ _ _ _ _ _ _ _ _ _ _ _ _ _ _ _ _ _ _ _ _ _ _ (qend_set4 B2 z0 B1.size R2 _ _ _ _) | with_reducible exact tail1 _ _ _ _ _ _ _ _ _ _ _ _ _ _ _ _ _ _ _ _ _ _ _ _ _ _ _ _ _ _ _ _ _ _ _ _ _ _ _ _ _ _ _ _ _ _ _ _ (qend_set4 B2 z0 (Nat.le_refl _) R2 _ _ _ _) | with_reducible exact tail1 _ _ _ _ _ _ _ _ _ _ _ _ _ _ _ _ _ _ _ _ _ _ _ _ _ _ _ _ _ _ _ _ _ _ _ _ _ _ _ _ _ _ _ _ _ _ _ _ (qend_new4 B2 R2 _ _ _ _)
end Go.Proofs.YtjldlmonccgopaaGreatDoor
