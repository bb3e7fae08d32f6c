/- RatParts: the law's walk. -/
import Derived.Test.YtnmfffgcepobpaaGreatDoorZPNumber
import Derived.Test.YtnmfffgcepobpaaGreatDoorZPNum
import Derived.Test.YtnmfffgcepobpaaGreatDoorZPSmall
import Derived.Test.YtnmfffgcepobpaaGreatDoorZPTParse
import Derived.Test.YtnmfffgcepobpaaGreatDoorPk18
import Derived.Test.YtnmfffgcepobpaaGreatDoorPk21
namespace Go.Proofs.YtnmfffgcepobpaaGreatDoor
open Go.RowKit
set_option linter.unusedVariables false
set_option maxRecDepth 100000
set_option linter.unusedSimpArgs false
attribute [local go_sem ↓] Go.wp_at_zero Go.wp_at_succ

theorem low_neg {x y : Int} (h : 0 < y) : lowN (-x) (-y) = lowN x y ∧ lowD (-x) (-y) = lowD x y := by
  unfold lowN lowD lowG
  rw [Int.natAbs_neg, Int.natAbs_neg, if_pos (show -y < 0 by omega), if_neg (show ¬ y < 0 by omega), Int.neg_neg]
  exact ⟨rfl, rfl⟩
theorem one_text {s : ByteArray} (h : Txt s) (e : num s = 1) : s = ⟨#[49]⟩ := num_inj h txt_one.1 (e.trans txt_one.2.symm)
theorem qend_set4 {X0 w : World} {g : Nat} {v : Value} {n d : Int} {K : Nat} {y0 y1 y2 y3 : Value} (B : Below X0.heap.size X0 w) (z0 : w.heap[g]? = some (Obj.cells #[y0, y1, y2, y3] 29 (0, 0))) (hg : X0.heap.size ≤ g) (h : RatIs w v n d K) (x0 x1 x2 x3 : Value) :
    Below X0.heap.size X0 ((((w.setCell ⟨g, 0, none⟩ x0).setCell ⟨g, 1, none⟩ x1).setCell ⟨g, 2, none⟩ x2).setCell ⟨g, 3, none⟩ x3) ∧ ((((w.setCell ⟨g, 0, none⟩ x0).setCell ⟨g, 1, none⟩ x1).setCell ⟨g, 2, none⟩ x2).setCell ⟨g, 3, none⟩ x3).heap[g]? = some (Obj.cells #[x0, x1, x2, x3] 29 (0, 0)) ∧ X0.heap.size ≤ g ∧ RatIs ((((w.setCell ⟨g, 0, none⟩ x0).setCell ⟨g, 1, none⟩ x1).setCell ⟨g, 2, none⟩ x2).setCell ⟨g, 3, none⟩ x3) v n d K :=
  ⟨p4_below B hg x0 x1 x2 x3, p4_set z0 x0 x1 x2 x3, hg, h.set z0 (p4_other x0 x1 x2 x3)⟩
theorem qend_new4 {X0 w : World} {v : Value} {n d : Int} {K : Nat} (B : Below X0.heap.size X0 w) (h : RatIs w v n d K) (x0 x1 x2 x3 : Value) :
    Below X0.heap.size X0 (w.alloc (Obj.cells #[x0, x1, x2, x3] 29)) ∧ (w.alloc (Obj.cells #[x0, x1, x2, x3] 29)).heap[w.heap.size]? = some (Obj.cells #[x0, x1, x2, x3] 29 (0, 0)) ∧ X0.heap.size ≤ w.heap.size ∧ RatIs (w.alloc (Obj.cells #[x0, x1, x2, x3] 29)) v n d K :=
  ⟨below_alloc' B (Nat.le_refl _) _, box_new _ _, B.size, h.below ((Below.refl _ _).alloc (Nat.le_refl _) _)⟩
theorem end_new1 {X0 w : World} {v : Value} {m K : Nat} (B : Below X0.heap.size X0 w) (h : NatIs w v m K) (u : Value) :
    Below X0.heap.size X0 (w.alloc (Obj.cells #[u] 25)) ∧ (w.alloc (Obj.cells #[u] 25)).heap[w.heap.size]? = some (Obj.cells #[u] 25 (0, 0)) ∧ X0.heap.size ≤ w.heap.size ∧ NatIs (w.alloc (Obj.cells #[u] 25)) v m K :=
  ⟨(end_new B h u).1, (end_new B h u).2.1, B.size, (end_new B h u).2.2⟩
theorem end_set1 {X0 w : World} {g : Nat} {v : Value} {m K : Nat} (B : Below X0.heap.size X0 w) (z0 : w.heap[g]? = some (Obj.cells #[Value.slice none 0 0] 25)) (hg : X0.heap.size ≤ g) (h : NatIs w v m K) (u : Value) :
    Below X0.heap.size X0 (w.setCell ⟨g, 0, none⟩ u) ∧ (w.setCell ⟨g, 0, none⟩ u).heap[g]? = some (Obj.cells #[u] 25 (0, 0)) ∧ X0.heap.size ≤ g ∧ NatIs (w.setCell ⟨g, 0, none⟩ u) v m K :=
  ⟨(end_set B z0 hg h u).1, (end_set B z0 hg h u).2.1, hg, (end_set B z0 hg h u).2.2⟩
theorem one_cell0 {w : World} {b : Nat} {u : Value} {t : TypeId} {fz : Nat × Nat} (h : w.heap[b]? = some (.cells #[u] t fz)) : w.cell? ⟨b, 0, none⟩ = some u := by simp [World.cell?, h]
theorem one_free0 {w : World} {b : Nat} {u : Value} {t : TypeId} (h : w.heap[b]? = some (.cells #[u] t (0, 0))) : w.frozen? ⟨b, 0, none⟩ = false := by simp [World.frozen?, h]
set_option maxHeartbeats 20000000 in
theorem qparts_any (x : ByteArray) (w : World) (hm : Mx w) (htab : Tab w) :
    Calls Tryz.prog 4 #[.string x] w fun e w' => e = .returned (.bool true) ∧ Below w.heap.size w w' := by
  go_enter Tryz.func4, Tryz.ntmps4
  by_cases hs : 256 < x.size
  · go_wp2
    go_ret
    exact ⟨rfl, Below.refl _ _⟩
  go_wp2_with fail
  refine (number3_any x w (by omega) hm htab).mono ?_
  rintro e w1 ⟨⟨a1, l1, c1, d1, a2, l2, c2, d2, a3, l3, c3, d3, a4, l4, c4, d4, bb, rfl, F⟩, b1⟩
  have x1 := boxed2_first w1 (Obj.cells #[.slice a1 l1 c1, .bool d1, .slice a2 l2 c2, .bool d2] 29) (Obj.cells #[.bool d3, .slice a3 l3 c3, .bool d4, .slice a4 l4 c4] 36)
  have y1 := boxed2_second w1 (Obj.cells #[.slice a1 l1 c1, .bool d1, .slice a2 l2 c2, .bool d2] 29) (Obj.cells #[.bool d3, .slice a3 l3 c3, .bool d4, .slice a4 l4 c4] 36)
  have hB := boxed2 (Below.refl w1.heap.size w1) (Obj.cells #[.slice a1 l1 c1, .bool d1, .slice a2 l2 c2, .bool d2] 29) (Obj.cells #[.bool d3, .slice a3 l3 c3, .bool d4, .slice a4 l4 c4] 36)
  have C1 := chain2 b1 hB
  have T1 := htab.below C1
  have F := fun h => (show ∃ n d, Can x n d ∧ RatIs _ (.agg #[.slice a1 l1 c1, .bool d1, .slice a2 l2 c2, .bool d2]) n d 40 ∧ TRatIs _ (.agg #[.bool d3, .slice a3 l3 c3, .bool d4, .slice a4 l4 c4]) n d 40 from by
    obtain ⟨n, d, g1, g2, g3⟩ := F h
    exact ⟨n, d, g1, (g2.below hB).mono (by omega), (g3.below hB).mono (by omega)⟩)
  clear hB b1
  cases bb
  · clear F
    go_wp2
    go_ret
    exact ⟨rfl, C1⟩
  obtain ⟨n, d, hcan, Ra, Rb⟩ := F rfl
  clear F
  have hd0 : d ≠ 0 := by have := hcan.pos; omega
  have hd1 : -d ≠ 0 := by have := hcan.pos; omega
  have L1 := low_id hcan.pos hcan.cop
  have L2 := low_neg (x := n) (show 0 < d by have := hcan.pos; omega)
  rw [L1.1, L1.2] at L2
  have HS := hid (fun t (h : QTx t n d) => QTx.inj h hcan.tx)
  have HC := hid hcan.cop
  have HD := hid (show signZ d = 1 by have := hcan.pos; unfold signZ; rw [if_neg (by omega), if_pos (by omega)])
  have HE := hid (show mkE d = 0 by unfold mkE; rw [if_neg hd0])
  have HE2 := hid (show mkE (-d) = 0 by unfold mkE; rw [if_neg hd1])
  clear hcan Rb
  obtain ⟨t0, t1, t2, t3⟩ := four_cell x1
  go_wp2_with fail
  generalize (w1.alloc (Obj.cells #[.slice a1 l1 c1, .bool d1, .slice a2 l2 c2, .bool d2] 29)).alloc (Obj.cells #[.bool d3, .slice a3 l3 c3, .bool d4, .slice a4 l4 c4] 36) = W1 at *
  generalize w1.heap.size = k1 at *
  have B0 : Below W1.heap.size W1 W1.drew := (Below.refl _ _).drew
  rename_i Q1 K1 hK1
  clear y1
  have tail1 : ∀ (V : World) (g : Nat) (a5 : Option Addr) (l5 c5 : Nat) (d5 : Bool) (a6 : Option Addr) (l6 c6 : Nat) (d6 : Bool) (p12 p13 p14 p15 p16 p17 p18 p19 p20 p21 p22 p23 p24 p25 p26 p27 p28 p29 p30 p31 p32 p33 : Value), (Below W1.heap.size W1 V ∧ V.heap[g]? = some (Obj.cells #[Value.slice a5 l5 c5, Value.bool d5, Value.slice a6 l6 c6, Value.bool d6] 29 (0, 0)) ∧ W1.heap.size ≤ g ∧ RatIs V (Value.agg #[Value.slice a5 l5 c5, Value.bool d5, Value.slice a6 l6 c6, Value.bool d6]) n d 49) → K1 { tmps := #[Value.string x, undef, Value.bool false, Value.pointer (some { block := k1, off := 0 }), Value.pointer (some { block := k1 + 1, off := 0 }), Value.bool true, Value.bool true, Value.pointer (some { block := g, off := 0 }), Value.int IntKind.i64 0, undef, undef, undef, p12, p13, p14, p15, p16, p17, p18, p19, p20, p21, p22, p23, p24, p25, p26, p27, p28, p29, p30, p31, p32, p33, undef, undef, undef, undef, undef, undef, undef, undef, undef, undef, undef, undef, undef, undef, undef, undef, undef, undef, undef, undef, undef, undef, undef, undef, undef, undef, undef, undef, undef, undef, undef, undef, undef, undef, undef, undef, undef, undef, undef, undef, undef, undef, undef, undef, undef, undef], defers := [] } V := by
    rintro V g a5 l5 c5 d5 a6 l6 c6 d6 p12 p13 p14 p15 p16 p17 p18 p19 p20 p21 p22 p23 p24 p25 p26 p27 p28 p29 p30 p31 p32 p33 ⟨bV, gV, hg, RV⟩
    refine hK1 _ _ ?_
    clear hK1 B0
    have x1 := box_below bV x1 (lt_of_block x1)
    have C1 := chain2 C1 bV
    have T1 := T1.below bV
    have Ra := Ra.below bV
    have t0 := kc bV t0
    have t1 := kc bV t1
    have t2 := kc bV t2
    have t3 := kc bV t3
    clear bV hg
    go_wp2_with fail
    have B0 : Below V.heap.size V V.drew := (Below.refl _ _).drew
    rename_i K2 hK2
    have tail2 : ∀ (U : World) (h : Nat) (a7 : Option Addr) (l7 c7 : Nat) (d7 : Bool) (a8 : Option Addr) (l8 c8 : Nat) (d8 : Bool) (q12 q13 q14 q15 q16 q17 q18 q19 q20 q21 q22 q23 q24 q25 q26 q27 q28 q29 q30 q31 q32 q33 q34 q35 q36 q37 q38 q39 q40 q41 q42 q43 : Value), (Below V.heap.size V U ∧ U.heap[h]? = some (Obj.cells #[Value.slice a7 l7 c7, Value.bool d7, Value.slice a8 l8 c8, Value.bool d8] 29 (0, 0)) ∧ V.heap.size ≤ h ∧ RatIs U (Value.agg #[Value.slice a7 l7 c7, Value.bool d7, Value.slice a8 l8 c8, Value.bool d8]) n d 50) → K2 { tmps := #[Value.string x, undef, Value.bool false, Value.pointer (some { block := k1, off := 0 }), Value.pointer (some { block := k1 + 1, off := 0 }), Value.bool true, Value.bool true, Value.pointer (some { block := g, off := 0 }), Value.int IntKind.i64 0, Value.pointer (some { block := h, off := 0 }), Value.int IntKind.i64 0, undef, q12, q13, q14, q15, q16, q17, q18, q19, q20, q21, q22, q23, q24, q25, q26, q27, q28, q29, q30, q31, q32, q33, q34, q35, q36, q37, q38, q39, q40, q41, q42, q43, undef, undef, undef, undef, undef, undef, undef, undef, undef, undef, undef, undef, undef, undef, undef, undef, undef, undef, undef, undef, undef, undef, undef, undef, undef, undef, undef, undef, undef, undef, undef, undef, undef, undef, undef, undef], defers := [] } U := by
      rintro U h a7 l7 c7 d7 a8 l8 c8 d8 q12 q13 q14 q15 q16 q17 q18 q19 q20 q21 q22 q23 q24 q25 q26 q27 q28 q29 q30 q31 q32 q33 q34 q35 q36 q37 q38 q39 q40 q41 q42 q43 ⟨bV, hV, hg, RC⟩
      refine hK2 _ _ ?_
      clear hK2 B0
      have x1 := box_below bV x1 (lt_of_block x1)
      have gV := box_below bV gV (lt_of_block gV)
      have C1 := chain2 C1 bV
      have T1 := T1.below bV
      have Ra := Ra.below bV
      have RV := RV.below bV
      have t0 := kc bV t0
      have t1 := kc bV t1
      have t2 := kc bV t2
      have t3 := kc bV t3
      clear bV hg
      go_wp2_with fail
      have B0 : Below U.heap.size U U.drew := (Below.refl _ _).drew
      rename_i K3 hK3
      have tail3 : ∀ (S : World) (k : Nat) (a9 : Option Addr) (l9 c9 : Nat) (r12 r13 r14 r15 r16 r17 r18 r19 r20 r21 r22 r23 r24 r25 r26 r27 r28 r29 r30 r31 r32 r33 r34 r35 r36 r37 r38 r39 r40 r41 r42 r43 r44 r45 r46 r47 r48 r49 r50 r51 : Value), (Below U.heap.size U S ∧ S.heap[k]? = some (Obj.cells #[Value.slice a9 l9 c9] 25 (0, 0)) ∧ U.heap.size ≤ k ∧ NatIs S (Value.agg #[Value.slice a9 l9 c9]) 1 44) → K3 { tmps := #[Value.string x, undef, Value.bool false, Value.pointer (some { block := k1, off := 0 }), Value.pointer (some { block := k1 + 1, off := 0 }), Value.bool true, Value.bool true, Value.pointer (some { block := g, off := 0 }), Value.int IntKind.i64 0, Value.pointer (some { block := h, off := 0 }), Value.int IntKind.i64 0, Value.pointer (some { block := k, off := 0 }), r12, r13, r14, r15, r16, r17, r18, r19, r20, r21, r22, r23, r24, r25, r26, r27, r28, r29, r30, r31, r32, r33, r34, r35, r36, r37, r38, r39, r40, r41, r42, r43, r44, r45, r46, r47, r48, r49, r50, r51, undef, undef, undef, undef, undef, undef, undef, undef, undef, undef, undef, undef, undef, undef, undef, undef, undef, undef, undef, undef, undef, undef, undef, undef, undef, undef, undef, undef], defers := [] } S := by
        rintro S k a9 l9 c9 r12 r13 r14 r15 r16 r17 r18 r19 r20 r21 r22 r23 r24 r25 r26 r27 r28 r29 r30 r31 r32 r33 r34 r35 r36 r37 r38 r39 r40 r41 r42 r43 r44 r45 r46 r47 r48 r49 r50 r51 ⟨bV, kV, hg, NG⟩
        refine hK3 _ _ ?_
        clear hK3 B0 t0 t1 t2 t3
        have x1 := box_below bV x1 (lt_of_block x1)
        have gV := box_below bV gV (lt_of_block gV)
        have hV := box_below bV hV (lt_of_block hV)
        have C1 := chain2 C1 bV
        have T1 := T1.below bV
        have Ra := Ra.below bV
        have RV := RV.below bV
        have RC := RC.below bV
        obtain ⟨t0, t1, t2, t3⟩ := four_cell x1
        obtain ⟨b0, b1, b2, b3⟩ := four_cell gV
        obtain ⟨e0, e1, e2, e3⟩ := four_cell hV
        have k0 := one_cell0 kV
        clear bV hg x1 gV hV kV
        go_wp2_with fail
        refine (qtext_any _ _ n d 49 (by omega) RV T1).mono ?_
        rintro e s1 ⟨⟨y1, rfl, h1⟩, f1⟩
        rw [HS.out _ h1]
        have t0 := kc f1 t0
        have t1 := kc f1 t1
        have t2 := kc f1 t2
        have t3 := kc f1 t3
        have e0 := kc f1 e0
        have e1 := kc f1 e1
        have e2 := kc f1 e2
        have e3 := kc f1 e3
        have k0 := kc f1 k0
        have T1 := T1.below f1
        have Ra := Ra.below f1
        have RC := RC.below f1
        have NG := NG.below f1
        have C1 := chain2 C1 f1
        clear h1 f1 b0 b1 b2 b3 RV
        go_wp2_with fail
        refine (qtext_any _ _ n d 50 (by omega) RC T1).mono ?_
        rintro e s2 ⟨⟨y2, rfl, h2⟩, f2⟩
        rw [HS.out _ h2]
        have t0 := kc f2 t0
        have t1 := kc f2 t1
        have t2 := kc f2 t2
        have t3 := kc f2 t3
        have k0 := kc f2 k0
        have T1 := T1.below f2
        have Ra := Ra.below f2
        have NG := NG.below f2
        have C1 := chain2 C1 f2
        clear h2 f2 e0 e1 e2 e3 RC
        go_wp2_with fail
        refine (text_any _ _ 1 44 (by omega) NG T1).mono ?_
        rintro e s3 ⟨⟨y3, rfl, h3, h4⟩, f3⟩
        rw [one_text h3 h4]
        have t0 := kc f3 t0
        have t1 := kc f3 t1
        have t2 := kc f3 t2
        have t3 := kc f3 t3
        have Ra := Ra.below f3
        have C1 := chain2 C1 f3
        clear h3 h4 f3 k0 NG T1
        go_wp2_with fail
        refine (qden_any _ _ n d 40 (by omega) Ra).mono ?_
        rintro e s4 ⟨v4, rfl, n4, f4⟩
        have C1 := chain2 C1 f4
        clear f4 t0 t1 t2 t3 Ra
        go_wp2_with fail
        refine (nsign_any _ _ d 43 (by omega) n4).mono ?_
        rintro e s5 ⟨rfl, f5⟩
        rw [HD.out]
        have C1 := chain2 C1 f5
        clear f5 n4
        go_wp2
        go_ret
        exact ⟨rfl, C1⟩
      go_region_held3 (fun w' => w'.cell? ⟨k1, 0, none⟩ = some (.slice a1 l1 c1) ∧ w'.cell? ⟨k1, 1, none⟩ = some (.bool d1) ∧ w'.cell? ⟨k1, 2, none⟩ = some (.slice a2 l2 c2) ∧ w'.cell? ⟨k1, 3, none⟩ = some (.bool d2)) ((refine keep4' t0 t1 t2 t3 ?_; first | exact B0 | exact B1 | exact B2 | exact B3 | exact B4 | exact B5 | exact below_alloc' B0 (Nat.le_refl _) _ | exact below_alloc' B1 (Nat.le_refl _) _ | exact below_alloc' B2 (Nat.le_refl _) _ | exact below_alloc' B3 (Nat.le_refl _) _ | exact below_alloc' B4 (Nat.le_refl _) _ | exact below_alloc' B5 (Nat.le_refl _) _ | exact B5.setCell (p := ⟨_, 0, none⟩) B0.size _ | exact B5.setCell (p := ⟨_, 0, none⟩) B1.size _ | exact B5.setCell (p := ⟨_, 0, none⟩) B2.size _ | exact B5.setCell (p := ⟨_, 0, none⟩) B3.size _ | exact B5.setCell (p := ⟨_, 0, none⟩) B4.size _)) (first
    | (have gk := B4; go_at_call 22; refine (gcd_any _ _ _ n.natAbs d.natAbs 44 (by omega) (by first | exact n302.mono (by omega) | exact (n302.below (below_alloc' (Below.refl _ _) (Nat.le_refl _) _)).mono (by omega)) (by first | exact n304 | exact (n304.below (below_alloc' (Below.refl _ _) (Nat.le_refl _) _)))).mono ?_; rintro e w305 ⟨v305, rfl, n305, hb305⟩; have B5 : Below U.heap.size U w305 := (by first | exact chain2 B4 hb305 | exact chain2 (below_alloc' B4 (Nat.le_refl _) _) hb305); have s5 : Below w304.heap.size w304 w305 := (by first | exact hb305 | exact chain2 (below_alloc' (Below.refl _ _) (Nat.le_refl _) _) hb305); rw [HC.out] at n305; obtain ⟨a9, l9, c9, rfl⟩ := n305.form; (try have z0 := box_below hb305 (box_new w304 (Obj.cells #[Value.slice none 0 0] 25)) (lt_of_block (box_new w304 (Obj.cells #[Value.slice none 0 0] 25)))); (try have z0 := box_below hb305 z0 (lt_of_block z0)); (try have i0 := one_cell0 z0); (try have z4 := one_free0 z0))
    | (have gk := B3; go_at_call 21; refine (nabs_any _ _ d 43 (by omega) (by first | exact n303 | exact (n303.below (below_alloc' (Below.refl _ _) (Nat.le_refl _) _)))).mono ?_; rintro e w304 ⟨v304, rfl, n304, hb304⟩; have B4 : Below U.heap.size U w304 := (by first | exact chain2 B3 hb304 | exact chain2 (below_alloc' B3 (Nat.le_refl _) _) hb304); have s4 : Below w303.heap.size w303 w304 := (by first | exact hb304 | exact chain2 (below_alloc' (Below.refl _ _) (Nat.le_refl _) _) hb304); have n302 := n302.below s4; (try have z0 := box_below hb304 (box_new w303 (Obj.cells #[Value.slice none 0 0] 25)) (lt_of_block (box_new w303 (Obj.cells #[Value.slice none 0 0] 25)))); (try have z0 := box_below hb304 z0 (lt_of_block z0)))
    | (have gk := B2; go_at_call 20; refine (qden_any _ _ n d 40 (by omega) (by first | exact Ra.below B2 | exact Ra.below (below_alloc' B2 (Nat.le_refl _) _))).mono ?_; rintro e w303 ⟨v303, rfl, n303, hb303⟩; have B3 : Below U.heap.size U w303 := (by first | exact chain2 B2 hb303 | exact chain2 (below_alloc' B2 (Nat.le_refl _) _) hb303); have s3 : Below w302.heap.size w302 w303 := (by first | exact hb303 | exact chain2 (below_alloc' (Below.refl _ _) (Nat.le_refl _) _) hb303); have n302 := n302.below s3; (try have z0 := box_below hb303 (box_new w302 (Obj.cells #[Value.slice none 0 0] 25)) (lt_of_block (box_new w302 (Obj.cells #[Value.slice none 0 0] 25)))); (try have z0 := box_below hb303 z0 (lt_of_block z0)))
    | (have gk := B1; go_at_call 21; refine (nabs_any _ _ n 41 (by omega) (by first | exact n301 | exact (n301.below (below_alloc' (Below.refl _ _) (Nat.le_refl _) _)))).mono ?_; rintro e w302 ⟨v302, rfl, n302, hb302⟩; have B2 : Below U.heap.size U w302 := (by first | exact chain2 B1 hb302 | exact chain2 (below_alloc' B1 (Nat.le_refl _) _) hb302); have s2 : Below w301.heap.size w301 w302 := (by first | exact hb302 | exact chain2 (below_alloc' (Below.refl _ _) (Nat.le_refl _) _) hb302); skip; (try have z0 := box_below hb302 (box_new w301 (Obj.cells #[Value.slice none 0 0] 25)) (lt_of_block (box_new w301 (Obj.cells #[Value.slice none 0 0] 25)))); (try have z0 := box_below hb302 z0 (lt_of_block z0)))
    | (go_at_call 19; refine (qnum_any _ _ n d 40 (by omega) (by first | exact Ra.below B0 | exact Ra.below (below_alloc' B0 (Nat.le_refl _) _))).mono ?_; rintro e w301 ⟨v301, rfl, n301, hb301⟩; have B1 : Below U.heap.size U w301 := (by first | exact chain2 B0 hb301 | exact chain2 (below_alloc' B0 (Nat.le_refl _) _) hb301); skip; (try have z0 := box_below hb301 (show (U.drew.alloc (Obj.cells #[Value.slice none 0 0] 25)).heap[U.heap.size]? = some (Obj.cells #[Value.slice none 0 0] 25) from box_new U.drew (Obj.cells #[Value.slice none 0 0] 25)) (lt_of_block (box_new U.drew (Obj.cells #[Value.slice none 0 0] 25))))))
      all_goals first | exact tail3 _ _ _ _ _ _ _ _ _ _ _ _ _ _ _ _ _ _ _ _ _ _ _ _ _ _ _ _ _ _ _ _ _ _ _ _ _ _ _ _ _ _ _ _ _ (end_set1 B5 z0 B4.size n305 _) | exact tail3 _ _ _ _ _ _ _ _ _ _ _ _ _ _ _ _ _ _ _ _ _ _ _ _ _ _ _ _ _ _ _ _ _ _ _ _ _ _ _ _ _ _ _ _ _ (end_set1 B5 z0 B3.size n305 _) | exact tail3 _ _ _ _ _ _ _ _ _ _ _ _ _ _ _ _ _ _ _ _ _ _ _ _ _ _ _ _ _ _ _ _ _ _ _ _ _ _ _ _ _ _ _ _ _ (end_set1 B5 z0 B2.size n305 _) | exact tail3 _ _ _ _ _ _ _ _ _ _ _ _ _ _ _ _ _ _ _ _ _ _ _ _ _ _ _ _ _ _ _ _ _ _ _ _ _ _ _ _ _ _ _ _ _ (end_set1 B5 z0 B1.size n305 _) | exact tail3 _ _ _ _ _ _ _ _ _ _ _ _ _ _ _ _ _ _ _ _ _ _ _ _ _ _ _ _ _ _ _ _ _ _ _ _ _ _ _ _ _ _ _ _ _ (end_set1 B5 z0 (Nat.le_refl _) n305 _) | exact tail3 _ _ _ _ _ _ _ _ _ _ _ _ _ _ _ _ _ _ _ _ _ _ _ _ _ _ _ _ _ _ _ _ _ _ _ _ _ _ _ _ _ _ _ _ _ (end_new1 B5 n305 _)
    go_region_held3 (fun w' => w'.cell? ⟨k1, 0, none⟩ = some (.slice a1 l1 c1) ∧ w'.cell? ⟨k1, 1, none⟩ = some (.bool d1) ∧ w'.cell? ⟨k1, 2, none⟩ = some (.slice a2 l2 c2) ∧ w'.cell? ⟨k1, 3, none⟩ = some (.bool d2)) ((refine keep4' t0 t1 t2 t3 ?_; first | exact B0 | exact B1 | exact B2 | exact B3 | exact B4 | exact B5 | exact below_alloc' B0 (Nat.le_refl _) _ | exact below_alloc' B1 (Nat.le_refl _) _ | exact below_alloc' B2 (Nat.le_refl _) _ | exact below_alloc' B3 (Nat.le_refl _) _ | exact below_alloc' B4 (Nat.le_refl _) _ | exact below_alloc' B5 (Nat.le_refl _) _ | exact p4_below B5 B0.size _ _ _ _ | exact p4_below B5 B1.size _ _ _ _ | exact p4_below B5 B2.size _ _ _ _ | exact p4_below B5 B3.size _ _ _ _ | exact p4_below B5 B4.size _ _ _ _)) (first
    | (have gk := B4; go_at_call 18; refine (qmake_any _ _ _ (-n) (-d) 44 (by omega) (by first | exact n202.mono (by omega) | exact (n202.below (below_alloc' (Below.refl _ _) (Nat.le_refl _) _)).mono (by omega)) (by first | exact n204 | exact (n204.below (below_alloc' (Below.refl _ _) (Nat.le_refl _) _)))).mono ?_; rintro e w205 ⟨⟨a7, l7, c7, d7, a8, l8, c8, d8, rfl, R5⟩, hb205⟩; have B5 : Below V.heap.size V w205 := (by first | exact chain2 B4 hb205 | exact chain2 (below_alloc' B4 (Nat.le_refl _) _) hb205); have s5 : Below w204.heap.size w204 w205 := (by first | exact hb205 | exact chain2 (below_alloc' (Below.refl _ _) (Nat.le_refl _) _) hb205); rw [mkN, if_neg hd1, mkD, if_neg hd1, L2.1, L2.2] at R5; rw [HE2.out]; (try have z0 := box_below hb205 (box_new w204 (Obj.cells #[Value.slice none 0 0, Value.bool false, Value.slice none 0 0, Value.bool false] 29)) (lt_of_block (box_new w204 (Obj.cells #[Value.slice none 0 0, Value.bool false, Value.slice none 0 0, Value.bool false] 29)))); (try have z0 := box_below hb205 z0 (lt_of_block z0)); (try have z1 := four_cell z0); (try obtain ⟨i0, i1, i2, i3⟩ := z1); (try have z4 := p4_free z0))
    | (have gk := B3; go_at_call 17; refine (nneg_any _ _ d 43 (by omega) (by first | exact n203 | exact (n203.below (below_alloc' (Below.refl _ _) (Nat.le_refl _) _)))).mono ?_; rintro e w204 ⟨v204, rfl, n204, hb204⟩; have B4 : Below V.heap.size V w204 := (by first | exact chain2 B3 hb204 | exact chain2 (below_alloc' B3 (Nat.le_refl _) _) hb204); have s4 : Below w203.heap.size w203 w204 := (by first | exact hb204 | exact chain2 (below_alloc' (Below.refl _ _) (Nat.le_refl _) _) hb204); have n202 := n202.below s4; (try have z0 := box_below hb204 (box_new w203 (Obj.cells #[Value.slice none 0 0, Value.bool false, Value.slice none 0 0, Value.bool false] 29)) (lt_of_block (box_new w203 (Obj.cells #[Value.slice none 0 0, Value.bool false, Value.slice none 0 0, Value.bool false] 29)))); (try have z0 := box_below hb204 z0 (lt_of_block z0)))
    | (have gk := B2; go_at_call 20; refine (qden_any _ _ n d 40 (by omega) (by first | exact Ra.below B2 | exact Ra.below (below_alloc' B2 (Nat.le_refl _) _))).mono ?_; rintro e w203 ⟨v203, rfl, n203, hb203⟩; have B3 : Below V.heap.size V w203 := (by first | exact chain2 B2 hb203 | exact chain2 (below_alloc' B2 (Nat.le_refl _) _) hb203); have s3 : Below w202.heap.size w202 w203 := (by first | exact hb203 | exact chain2 (below_alloc' (Below.refl _ _) (Nat.le_refl _) _) hb203); have n202 := n202.below s3; (try have z0 := box_below hb203 (box_new w202 (Obj.cells #[Value.slice none 0 0, Value.bool false, Value.slice none 0 0, Value.bool false] 29)) (lt_of_block (box_new w202 (Obj.cells #[Value.slice none 0 0, Value.bool false, Value.slice none 0 0, Value.bool false] 29)))); (try have z0 := box_below hb203 z0 (lt_of_block z0)))
    | (have gk := B1; go_at_call 17; refine (nneg_any _ _ n 41 (by omega) (by first | exact n201 | exact (n201.below (below_alloc' (Below.refl _ _) (Nat.le_refl _) _)))).mono ?_; rintro e w202 ⟨v202, rfl, n202, hb202⟩; have B2 : Below V.heap.size V w202 := (by first | exact chain2 B1 hb202 | exact chain2 (below_alloc' B1 (Nat.le_refl _) _) hb202); have s2 : Below w201.heap.size w201 w202 := (by first | exact hb202 | exact chain2 (below_alloc' (Below.refl _ _) (Nat.le_refl _) _) hb202); skip; (try have z0 := box_below hb202 (box_new w201 (Obj.cells #[Value.slice none 0 0, Value.bool false, Value.slice none 0 0, Value.bool false] 29)) (lt_of_block (box_new w201 (Obj.cells #[Value.slice none 0 0, Value.bool false, Value.slice none 0 0, Value.bool false] 29)))); (try have z0 := box_below hb202 z0 (lt_of_block z0)))
    | (go_at_call 19; refine (qnum_any _ _ n d 40 (by omega) (by first | exact Ra.below B0 | exact Ra.below (below_alloc' B0 (Nat.le_refl _) _))).mono ?_; rintro e w201 ⟨v201, rfl, n201, hb201⟩; have B1 : Below V.heap.size V w201 := (by first | exact chain2 B0 hb201 | exact chain2 (below_alloc' B0 (Nat.le_refl _) _) hb201); skip; (try have z0 := box_below hb201 (show (V.drew.alloc (Obj.cells #[Value.slice none 0 0, Value.bool false, Value.slice none 0 0, Value.bool false] 29)).heap[V.heap.size]? = some (Obj.cells #[Value.slice none 0 0, Value.bool false, Value.slice none 0 0, Value.bool false] 29) from box_new V.drew (Obj.cells #[Value.slice none 0 0, Value.bool false, Value.slice none 0 0, Value.bool false] 29)) (lt_of_block (box_new V.drew (Obj.cells #[Value.slice none 0 0, Value.bool false, Value.slice none 0 0, Value.bool false] 29))))))
    all_goals first | exact tail2 _ _ _ _ _ _ _ _ _ _ _ _ _ _ _ _ _ _ _ _ _ _ _ _ _ _ _ _ _ _ _ _ _ _ _ _ _ _ _ _ _ _ (qend_set4 B5 z0 B4.size R5 _ _ _ _) | exact tail2 _ _ _ _ _ _ _ _ _ _ _ _ _ _ _ _ _ _ _ _ _ _ _ _ _ _ _ _ _ _ _ _ _ _ _ _ _ _ _ _ _ _ (qend_set4 B5 z0 B3.size R5 _ _ _ _) | exact tail2 _ _ _ _ _ _ _ _ _ _ _ _ _ _ _ _ _ _ _ _ _ _ _ _ _ _ _ _ _ _ _ _ _ _ _ _ _ _ _ _ _ _ (qend_set4 B5 z0 B2.size R5 _ _ _ _) | exact tail2 _ _ _ _ _ _ _ _ _ _ _ _ _ _ _ _ _ _ _ _ _ _ _ _ _ _ _ _ _ _ _ _ _ _ _ _ _ _ _ _ _ _ (qend_set4 B5 z0 B1.size R5 _ _ _ _) | exact tail2 _ _ _ _ _ _ _ _ _ _ _ _ _ _ _ _ _ _ _ _ _ _ _ _ _ _ _ _ _ _ _ _ _ _ _ _ _ _ _ _ _ _ (qend_set4 B5 z0 (Nat.le_refl _) R5 _ _ _ _) | exact tail2 _ _ _ _ _ _ _ _ _ _ _ _ _ _ _ _ _ _ _ _ _ _ _ _ _ _ _ _ _ _ _ _ _ _ _ _ _ _ _ _ _ _ (qend_new4 B5 R5 _ _ _ _)
  go_region_held3 (fun w' => w'.cell? ⟨k1, 0, none⟩ = some (.slice a1 l1 c1) ∧ w'.cell? ⟨k1, 1, none⟩ = some (.bool d1) ∧ w'.cell? ⟨k1, 2, none⟩ = some (.slice a2 l2 c2) ∧ w'.cell? ⟨k1, 3, none⟩ = some (.bool d2)) ((refine keep4' t0 t1 t2 t3 ?_; first | exact B0 | exact B1 | exact B2 | exact B3 | exact below_alloc' B0 (Nat.le_refl _) _ | exact below_alloc' B1 (Nat.le_refl _) _ | exact below_alloc' B2 (Nat.le_refl _) _ | exact below_alloc' B3 (Nat.le_refl _) _ | exact p4_below B3 B0.size _ _ _ _ | exact p4_below B3 B1.size _ _ _ _ | exact p4_below B3 B2.size _ _ _ _)) (first
    | (have gk := B2; go_at_call 18; refine (qmake_any _ _ _ n d 43 (by omega) (by first | exact n101.mono (by omega) | exact (n101.below (below_alloc' (Below.refl _ _) (Nat.le_refl _) _)).mono (by omega)) (by first | exact n102 | exact (n102.below (below_alloc' (Below.refl _ _) (Nat.le_refl _) _)))).mono ?_; rintro e w103 ⟨⟨a5, l5, c5, d5, a6, l6, c6, d6, rfl, R3⟩, hb103⟩; have B3 : Below W1.heap.size W1 w103 := (by first | exact chain2 B2 hb103 | exact chain2 (below_alloc' B2 (Nat.le_refl _) _) hb103); have s3 : Below w102.heap.size w102 w103 := (by first | exact hb103 | exact chain2 (below_alloc' (Below.refl _ _) (Nat.le_refl _) _) hb103); rw [mkN, if_neg hd0, mkD, if_neg hd0, L1.1, L1.2] at R3; rw [HE.out]; (try have z0 := box_below hb103 (box_new w102 (Obj.cells #[Value.slice none 0 0, Value.bool false, Value.slice none 0 0, Value.bool false] 29)) (lt_of_block (box_new w102 (Obj.cells #[Value.slice none 0 0, Value.bool false, Value.slice none 0 0, Value.bool false] 29)))); (try have z0 := box_below hb103 z0 (lt_of_block z0)); (try have z1 := four_cell z0); (try obtain ⟨i0, i1, i2, i3⟩ := z1); (try have z4 := p4_free z0))
    | (have gk := B1; go_at_call 20; refine (qden_any _ _ n d 40 (by omega) (by first | exact Ra.below B1 | exact Ra.below (below_alloc' B1 (Nat.le_refl _) _))).mono ?_; rintro e w102 ⟨v102, rfl, n102, hb102⟩; have B2 : Below W1.heap.size W1 w102 := (by first | exact chain2 B1 hb102 | exact chain2 (below_alloc' B1 (Nat.le_refl _) _) hb102); have s2 : Below w101.heap.size w101 w102 := (by first | exact hb102 | exact chain2 (below_alloc' (Below.refl _ _) (Nat.le_refl _) _) hb102); have n101 := n101.below s2; (try have z0 := box_below hb102 (box_new w101 (Obj.cells #[Value.slice none 0 0, Value.bool false, Value.slice none 0 0, Value.bool false] 29)) (lt_of_block (box_new w101 (Obj.cells #[Value.slice none 0 0, Value.bool false, Value.slice none 0 0, Value.bool false] 29)))); (try have z0 := box_below hb102 z0 (lt_of_block z0)))
    | (go_at_call 19; refine (qnum_any _ _ n d 40 (by omega) (by first | exact Ra.below B0 | exact Ra.below (below_alloc' B0 (Nat.le_refl _) _))).mono ?_; rintro e w101 ⟨v101, rfl, n101, hb101⟩; have B1 : Below W1.heap.size W1 w101 := (by first | exact chain2 B0 hb101 | exact chain2 (below_alloc' B0 (Nat.le_refl _) _) hb101); skip; (try have z0 := box_below hb101 (show (W1.drew.alloc (Obj.cells #[Value.slice none 0 0, Value.bool false, Value.slice none 0 0, Value.bool false] 29)).heap[W1.heap.size]? = some (Obj.cells #[Value.slice none 0 0, Value.bool false, Value.slice none 0 0, Value.bool false] 29) from box_new W1.drew (Obj.cells #[Value.slice none 0 0, Value.bool false, Value.slice none 0 0, Value.bool false] 29)) (lt_of_block (box_new W1.drew (Obj.cells #[Value.slice none 0 0, Value.bool false, Value.slice none 0 0, Value.bool false] 29))))))
  all_goals first | exact tail1 _ _ _ _ _ _ _ _ _ _ _ _ _ _ _ _ _ _ _ _ _ _ _ _ _ _ _ _ _ _ _ _ (qend_set4 B3 z0 B2.size R3 _ _ _ _) | exact tail1 _ _ _ _ _ _ _ _ _ _ _ _ _ _ _ _ _ _ _ _ _ _ _ _ _ _ _ _ _ _ _ _ (qend_set4 B3 z0 B1.size R3 _ _ _ _) | exact tail1 _ _ _ _ _ _ _ _ _ _ _ _ _ _ _ _ _ _ _ _ _ _ _ _ _ _ _ _ _ _ _ _ (qend_set4 B3 z0 (Nat.le_refl _) R3 _ _ _ _) | exact tail1 _ _ _ _ _ _ _ _ _ _ _ _ _ _ _ _ _ _ _ _ _ _ _ _ _ _ _ _ _ _ _ _ (qend_new4 B3 R3 _ _ _ _)
end Go.Proofs.YtnmfffgcepobpaaGreatDoor
