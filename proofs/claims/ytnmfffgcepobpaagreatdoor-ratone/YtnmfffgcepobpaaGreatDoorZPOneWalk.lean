/- RatOne: the law's walk. -/
import Derived.Test.YtnmfffgcepobpaaGreatDoorZPNumber
import Derived.Test.YtnmfffgcepobpaaGreatDoorZPNum
import Derived.Test.YtnmfffgcepobpaaGreatDoorZPSmall
import Derived.Test.YtnmfffgcepobpaaGreatDoorPk37
import Derived.Test.YtnmfffgcepobpaaGreatDoorPk31
import Derived.Test.YtnmfffgcepobpaaGreatDoorPk18
import Derived.Test.YtnmfffgcepobpaaGreatDoorZPTParse
import Derived.Test.YtnmfffgcepobpaaGreatDoorZPParts4
namespace Go.Proofs.YtnmfffgcepobpaaGreatDoor
open Go.RowKit
set_option linter.unusedVariables false
set_option maxRecDepth 100000
set_option linter.unusedSimpArgs false
attribute [local go_sem ↓] Go.wp_at_zero Go.wp_at_succ

theorem low_twice {x y : Int} (h : 1 ≤ y) (c : Nat.gcd x.natAbs y.natAbs = 1) : lowN (x * 2) (y * 2) = x ∧ lowD (x * 2) (y * 2) = y :=
  (Ev.low (x := x * 2) (y := y * 2) (X := x) (Y := y) (by omega) (by omega) (by grind)).same (Ev.self h c) rfl
theorem no_twice {A B : ByteArray} {x y : Int} (hA : ZTx A (x * 2)) (hB : ZTx B (y * 2)) : ∀ n d, ¬ Can (slash A B) n d := by
  intro n d h
  obtain ⟨p, hc, _⟩ := cut_bar (slash A B)
  obtain ⟨hp, e1, e2⟩ := slash_parts rfl (fun j hj => ztx_no_bar hA j hj) hc
  have hs := slash_size A B
  obtain ⟨_, _, h3, h4, h5⟩ := (can_parts hc (by omega)).1 h
  rw [e1] at h4
  rw [e2] at h5
  have q1 := h4.uniq hA
  have q2 := h5.uniq hB
  rw [q1, q2, Int.natAbs_mul, Int.natAbs_mul] at h3
  have hd : 2 ∣ Nat.gcd (x.natAbs * Int.natAbs 2) (y.natAbs * Int.natAbs 2) := Nat.dvd_gcd ⟨x.natAbs, Nat.mul_comm _ _⟩ ⟨y.natAbs, Nat.mul_comm _ _⟩
  rw [h3] at hd
  omega
theorem keep6q {W X : World} {p q r t u v : Addr} {a b c d e f : Value} (h1 : W.cell? p = some a) (h2 : W.cell? q = some b) (h3 : W.cell? r = some c) (h4 : W.cell? t = some d) (h5 : W.cell? u = some e) (h6 : W.cell? v = some f) (h : Below W.heap.size W X) : X.cell? p = some a ∧ X.cell? q = some b ∧ X.cell? r = some c ∧ X.cell? t = some d ∧ X.cell? u = some e ∧ X.cell? v = some f := ⟨kc h h1, kc h h2, kc h h3, kc h h4, kc h h5, kc h h6⟩
theorem qparse_none (s : ByteArray) (w : World) (hs : s.size ≤ 100000) (hm : Mx w) (htab : Tab w) (hn : ∀ n d, ¬ Can s n d) :
    Calls Tryz.prog 37 #[.string s] w fun e w' => e = .returned (.tuple #[.agg #[.slice none 0 0, .bool false, .slice none 0 0, .bool false], .int .i64 10]) ∧ Below w.heap.size w w' := by
  refine (qparse_any s w hs hm htab).mono ?_
  rintro e w' ⟨⟨n, d, v, h, _⟩ | ⟨_, h⟩, hb⟩
  · exact absurd h (hn n d)
  · exact ⟨h, hb⟩
set_option maxHeartbeats 20000000 in
theorem qone_any (x : ByteArray) (w : World) (hm : Mx w) (htab : Tab w) :
    Calls Tryz.prog 7 #[.string x] w fun e w' => e = .returned (.bool true) ∧ Below w.heap.size w w' := by
  go_enter Tryz.func7, Tryz.ntmps7
  by_cases hs : 256 < x.size
  · go_wp2
    go_ret
    exact ⟨rfl, Below.refl _ _⟩
  go_wp2_with fail
  refine (number3_any x w (by omega) hm htab).mono ?_
  rintro e w1 ⟨⟨a1, l1, c1, d1, a2, l2, c2, d2, a3, l3, c3, d3, a4, l4, c4, d4, bb, rfl, F⟩, b1⟩
  have x1 := boxed2_first w1 (Obj.cells #[.slice a1 l1 c1, .bool d1, .slice a2 l2 c2, .bool d2] 29) (Obj.cells #[.bool d3, .slice a3 l3 c3, .bool d4, .slice a4 l4 c4] 36)
  have y1 := boxed2_second w1 (Obj.cells #[.slice a1 l1 c1, .bool d1, .slice a2 l2 c2, .bool d2] 29) (Obj.cells #[.bool d3, .slice a3 l3 c3, .bool d4, .slice a4 l4 c4] 36)
  have hB := boxed2 (Below.refl w1.heap.size w1) (Obj.cells #[.slice a1 l1 c1, .bool d1, .slice a2 l2 c2, .bool d2] 29) (Obj.cells #[.bool d3, .slice a3 l3 c3, .bool d4, .slice a4 l4 c4] 36)
  have C1 := chain2 b1 hB
  have T1 := htab.below C1
  have F := fun h => (show ∃ n d, Can x n d ∧ RatIs _ (.agg #[.slice a1 l1 c1, .bool d1, .slice a2 l2 c2, .bool d2]) n d 40 ∧ TRatIs _ (.agg #[.bool d3, .slice a3 l3 c3, .bool d4, .slice a4 l4 c4]) n d 40 from by
    obtain ⟨n, d, g1, g2, g3⟩ := F h
    exact ⟨n, d, g1, (g2.below hB).mono (by omega), (g3.below hB).mono (by omega)⟩)
  clear hB b1
  cases bb
  · clear F
    go_wp2
    go_ret
    exact ⟨rfl, C1⟩
  obtain ⟨n, d, hcan, Ra, Rb⟩ := F rfl
  clear F
  have L1 := low_twice hcan.pos hcan.cop
  have HS := hid (fun t (h : QTx t n d) => QTx.inj h hcan.tx)
  have hd2 : d * 2 ≠ 0 := by have := hcan.pos; omega
  have HE := hid (show mkE (d * 2) = 0 by unfold mkE; rw [if_neg hd2])
  have HZ := hid (show cmpZ (n * d) (n * d) = 0 by simp [cmpZ])
  clear hcan Rb
  go_wp2_with fail
  generalize (w1.alloc (Obj.cells #[.slice a1 l1 c1, .bool d1, .slice a2 l2 c2, .bool d2] 29)).alloc (Obj.cells #[.bool d3, .slice a3 l3 c3, .bool d4, .slice a4 l4 c4] 36) = W1 at *
  generalize w1.heap.size = k1 at *
  refine (nof_any _ 2 (by omega) (by omega)).mono ?_
  rintro e u0 ⟨v0, rfl, Nt, e0⟩
  obtain ⟨a5, l5, c5, d5, rfl⟩ := num_form Nt
  have X0 := below_alloc' e0 (Nat.le_refl _) (Obj.cells #[.slice a5 l5 c5, .bool d5] 27)
  have x1 := box_below X0 x1 (lt_of_block x1)
  have x2 := box_new u0 (Obj.cells #[.slice a5 l5 c5, .bool d5] 27)
  have Ra := Ra.below X0
  have Nt := Nt.below ((Below.refl u0.heap.size u0).alloc (Nat.le_refl _) (Obj.cells #[.slice a5 l5 c5, .bool d5] 27))
  have C1 := chain2 C1 X0
  have T1 := T1.below X0
  have M1 := hm.below C1
  clear e0 X0 y1
  obtain ⟨t0, t1, t2, t3⟩ := four_cell x1
  have t4 := two_cell0 x2
  have t5 := two_cell1 x2
  go_wp2_with fail
  generalize u0.alloc (Obj.cells #[.slice a5 l5 c5, .bool d5] 27) = W2 at *
  generalize u0.heap.size = k2 at *
  have B0 : Below W2.heap.size W2 W2.drew := (Below.refl _ _).drew
  rename_i Q1 K1 hK1
  have tail1 : ∀ (V : World) (g : Nat) (a6 : Option Addr) (l6 c6 : Nat) (d6 : Bool) (a7 : Option Addr) (l7 c7 : Nat) (d7 : Bool) (p12 p13 p14 p15 p16 p17 p18 p19 p20 p21 p22 p23 p24 p25 p26 p27 p28 p29 p30 p31 p32 p33 p34 p35 p36 p37 p38 : Value), (Below W2.heap.size W2 V ∧ V.heap[g]? = some (Obj.cells #[Value.slice a6 l6 c6, Value.bool d6, Value.slice a7 l7 c7, Value.bool d7] 29 (0, 0)) ∧ W2.heap.size ≤ g ∧ RatIs V (Value.agg #[Value.slice a6 l6 c6, Value.bool d6, Value.slice a7 l7 c7, Value.bool d7]) n d 51) → K1 { tmps := #[Value.string x, undef, Value.bool false, Value.pointer (some { block := k1, off := 0 }), Value.pointer (some { block := k1 + 1, off := 0 }), Value.bool true, Value.bool true, Value.pointer (some { block := k2, off := 0 }), Value.pointer (some { block := g, off := 0 }), Value.int IntKind.i64 0, undef, undef, p12, p13, p14, p15, p16, p17, p18, p19, p20, p21, p22, p23, p24, p25, p26, p27, p28, p29, p30, p31, p32, p33, p34, p35, p36, p37, p38, undef, undef, undef, undef, undef, undef, undef, undef, undef, undef, undef, undef, undef, undef, undef, undef, undef, undef, undef, undef, undef, undef, undef, undef, undef, undef, undef, undef, undef, undef, undef, undef, undef, undef], defers := [] } V := by
    rintro V g a6 l6 c6 d6 a7 l7 c7 d7 p12 p13 p14 p15 p16 p17 p18 p19 p20 p21 p22 p23 p24 p25 p26 p27 p28 p29 p30 p31 p32 p33 p34 p35 p36 p37 p38 ⟨bV, gV, hg, RV⟩
    refine hK1 _ _ ?_
    clear hK1 B0
    have C1 := chain2 C1 bV
    have T1 := T1.below bV
    have Ra := Ra.below bV
    have Nt := Nt.below bV
    have M1 := M1.below bV
    have t0 := kc bV t0
    have t1 := kc bV t1
    have t2 := kc bV t2
    have t3 := kc bV t3
    have t4 := kc bV t4
    have t5 := kc bV t5
    clear bV hg
    go_wp2_with fail
    have B0 : Below V.heap.size V V.drew := (Below.refl _ _).drew
    rename_i K2 hK2
    have tail2 : ∀ (U : World) (h : Nat) (q12 q13 q14 q15 q16 q17 q18 q19 q20 q21 q22 q23 q24 q25 q26 q27 q28 q29 q30 q31 q32 q33 q34 q35 q36 q37 q38 q39 q40 q41 q42 q43 q44 q45 q46 q47 q48 q49 q50 q51 q52 q53 q54 : Value), Below V.heap.size V U → K2 { tmps := #[Value.string x, undef, Value.bool false, Value.pointer (some { block := k1, off := 0 }), Value.pointer (some { block := k1 + 1, off := 0 }), Value.bool true, Value.bool true, Value.pointer (some { block := k2, off := 0 }), Value.pointer (some { block := g, off := 0 }), Value.int IntKind.i64 0, Value.pointer (some { block := h, off := 0 }), Value.int IntKind.i64 10, q12, q13, q14, q15, q16, q17, q18, q19, q20, q21, q22, q23, q24, q25, q26, q27, q28, q29, q30, q31, q32, q33, q34, q35, q36, q37, q38, q39, q40, q41, q42, q43, q44, q45, q46, q47, q48, q49, q50, q51, q52, q53, q54, undef, undef, undef, undef, undef, undef, undef, undef, undef, undef, undef, undef, undef, undef, undef, undef, undef, undef], defers := [] } U := by
      intro U h q12 q13 q14 q15 q16 q17 q18 q19 q20 q21 q22 q23 q24 q25 q26 q27 q28 q29 q30 q31 q32 q33 q34 q35 q36 q37 q38 q39 q40 q41 q42 q43 q44 q45 q46 q47 q48 q49 q50 q51 q52 q53 q54 bV
      refine hK2 _ _ ?_
      clear hK2 B0
      have gV := box_below bV gV (lt_of_block gV)
      have C1 := chain2 C1 bV
      have T1 := T1.below bV
      have Ra := Ra.below bV
      have RV := RV.below bV
      have t0 := kc bV t0
      have t1 := kc bV t1
      have t2 := kc bV t2
      have t3 := kc bV t3
      obtain ⟨b0, b1, b2, b3⟩ := four_cell gV
      clear bV gV t4 t5 Nt M1
      go_wp2_with fail
      refine (qtext_any _ _ n d 51 (by omega) RV T1).mono ?_
      rintro e s1 ⟨⟨y1, rfl, h1⟩, f1⟩
      rw [HS.out _ h1]
      have Ra := Ra.below f1
      have RV := RV.below f1
      have t0 := kc f1 t0
      have t1 := kc f1 t1
      have t2 := kc f1 t2
      have t3 := kc f1 t3
      have b0 := kc f1 b0
      have b1 := kc f1 b1
      have b2 := kc f1 b2
      have b3 := kc f1 b3
      have C1 := chain2 C1 f1
      clear h1 f1 T1
      go_wp2_with fail
      refine (qcmp_any _ _ _ n d n d 51 (by omega) (Ra.mono (by omega)) RV).mono ?_
      rintro e s2 ⟨rfl, f2⟩
      rw [HZ.out]
      have C1 := chain2 C1 f2
      clear f2
      go_wp2
      go_ret
      exact ⟨rfl, C1⟩
    go_region_held3 (fun w' => w'.cell? ⟨k1, 0, none⟩ = some (.slice a1 l1 c1) ∧ w'.cell? ⟨k1, 1, none⟩ = some (.bool d1) ∧ w'.cell? ⟨k1, 2, none⟩ = some (.slice a2 l2 c2) ∧ w'.cell? ⟨k1, 3, none⟩ = some (.bool d2) ∧ w'.cell? ⟨k2, 0, none⟩ = some (.slice a5 l5 c5) ∧ w'.cell? ⟨k2, 1, none⟩ = some (.bool d5)) ((refine keep6q t0 t1 t2 t3 t4 t5 ?_; first | exact B0 | exact B1 | exact B2 | exact B3 | exact B4 | exact B5 | exact B6 | exact B7 | exact below_alloc' B0 (Nat.le_refl _) _ | exact below_alloc' B1 (Nat.le_refl _) _ | exact below_alloc' B2 (Nat.le_refl _) _ | exact below_alloc' B3 (Nat.le_refl _) _ | exact below_alloc' B4 (Nat.le_refl _) _ | exact below_alloc' B5 (Nat.le_refl _) _ | exact below_alloc' B6 (Nat.le_refl _) _ | exact below_alloc' B7 (Nat.le_refl _) _ | exact p4_below B7 B0.size _ _ _ _ | exact p4_below B7 B1.size _ _ _ _ | exact p4_below B7 B2.size _ _ _ _ | exact p4_below B7 B3.size _ _ _ _ | exact p4_below B7 B4.size _ _ _ _ | exact p4_below B7 B5.size _ _ _ _ | exact p4_below B7 B6.size _ _ _ _)) (first
    | (have gk := B6; go_at_call 37; refine (qparse_none (slash y1 y2) _ (by omega) (by first | exact M1.below B6 | exact M1.below (below_alloc' B6 (Nat.le_refl _) _)) (by first | exact T1.below B6 | exact T1.below (below_alloc' B6 (Nat.le_refl _) _)) (no_twice h1 h2)).mono ?_; rintro e w207 ⟨rfl, hb207⟩; have B7 : Below V.heap.size V w207 := (by first | exact chain2 B6 hb207 | exact chain2 (below_alloc' B6 (Nat.le_refl _) _) hb207); have s7 : Below w206.heap.size w206 w207 := (by first | exact hb207 | exact chain2 (below_alloc' (Below.refl _ _) (Nat.le_refl _) _) hb207); skip; (try have z0 := box_below hb207 (box_new w206 (Obj.cells #[Value.slice none 0 0, Value.bool false, Value.slice none 0 0, Value.bool false] 29)) (lt_of_block (box_new w206 (Obj.cells #[Value.slice none 0 0, Value.bool false, Value.slice none 0 0, Value.bool false] 29)))); (try have z0 := box_below hb207 z0 (lt_of_block z0)); (try have z1 := four_cell z0); (try obtain ⟨i0, i1, i2, i3⟩ := z1); (try have z4 := p4_free z0))
    | (have gk := B5; go_at_call 32; refine (ntext_any _ _ (d * 2) 45 (by omega) (by first | exact n205 | exact (n205.below (below_alloc' (Below.refl _ _) (Nat.le_refl _) _))) (by first | exact T1.below B5 | exact T1.below (below_alloc' B5 (Nat.le_refl _) _))).mono ?_; rintro e w206 ⟨⟨y2, rfl, h2⟩, hb206⟩; have B6 : Below V.heap.size V w206 := (by first | exact chain2 B5 hb206 | exact chain2 (below_alloc' B5 (Nat.le_refl _) _) hb206); have s6 : Below w205.heap.size w205 w206 := (by first | exact hb206 | exact chain2 (below_alloc' (Below.refl _ _) (Nat.le_refl _) _) hb206); have g3 := ztx_size h2 (numis_lt n205); have g2 := add_two y1 y2 (by omega); have g4 := slash_size y1 y2; (try have z0 := box_below hb206 (box_new w205 (Obj.cells #[Value.slice none 0 0, Value.bool false, Value.slice none 0 0, Value.bool false] 29)) (lt_of_block (box_new w205 (Obj.cells #[Value.slice none 0 0, Value.bool false, Value.slice none 0 0, Value.bool false] 29)))); (try have z0 := box_below hb206 z0 (lt_of_block z0)))
    | (have gk := B4; go_at_call 36; refine (nmul_any _ _ _ d 2 43 2 (by omega) (by omega) (by first | exact n204 | exact (n204.below (below_alloc' (Below.refl _ _) (Nat.le_refl _) _))) (by first | exact Nt.below B4 | exact Nt.below (below_alloc' B4 (Nat.le_refl _) _))).mono ?_; rintro e w205 ⟨v205, rfl, n205, hb205⟩; have B5 : Below V.heap.size V w205 := (by first | exact chain2 B4 hb205 | exact chain2 (below_alloc' B4 (Nat.le_refl _) _) hb205); have s5 : Below w204.heap.size w204 w205 := (by first | exact hb205 | exact chain2 (below_alloc' (Below.refl _ _) (Nat.le_refl _) _) hb205); skip; (try have z0 := box_below hb205 (box_new w204 (Obj.cells #[Value.slice none 0 0, Value.bool false, Value.slice none 0 0, Value.bool false] 29)) (lt_of_block (box_new w204 (Obj.cells #[Value.slice none 0 0, Value.bool false, Value.slice none 0 0, Value.bool false] 29)))); (try have z0 := box_below hb205 z0 (lt_of_block z0)))
    | (have gk := B3; go_at_call 20; refine (qden_any _ _ n d 40 (by omega) (by first | exact Ra.below B3 | exact Ra.below (below_alloc' B3 (Nat.le_refl _) _))).mono ?_; rintro e w204 ⟨v204, rfl, n204, hb204⟩; have B4 : Below V.heap.size V w204 := (by first | exact chain2 B3 hb204 | exact chain2 (below_alloc' B3 (Nat.le_refl _) _) hb204); have s4 : Below w203.heap.size w203 w204 := (by first | exact hb204 | exact chain2 (below_alloc' (Below.refl _ _) (Nat.le_refl _) _) hb204); skip; (try have z0 := box_below hb204 (box_new w203 (Obj.cells #[Value.slice none 0 0, Value.bool false, Value.slice none 0 0, Value.bool false] 29)) (lt_of_block (box_new w203 (Obj.cells #[Value.slice none 0 0, Value.bool false, Value.slice none 0 0, Value.bool false] 29)))); (try have z0 := box_below hb204 z0 (lt_of_block z0)))
    | (have gk := B2; go_at_call 32; refine (ntext_any _ _ (n * 2) 43 (by omega) (by first | exact n202 | exact (n202.below (below_alloc' (Below.refl _ _) (Nat.le_refl _) _))) (by first | exact T1.below B2 | exact T1.below (below_alloc' B2 (Nat.le_refl _) _))).mono ?_; rintro e w203 ⟨⟨y1, rfl, h1⟩, hb203⟩; have B3 : Below V.heap.size V w203 := (by first | exact chain2 B2 hb203 | exact chain2 (below_alloc' B2 (Nat.le_refl _) _) hb203); have s3 : Below w202.heap.size w202 w203 := (by first | exact hb203 | exact chain2 (below_alloc' (Below.refl _ _) (Nat.le_refl _) _) hb203); have g0 := ztx_size h1 (numis_lt n202); have g1 := add_one y1 (by omega); (try have z0 := box_below hb203 (box_new w202 (Obj.cells #[Value.slice none 0 0, Value.bool false, Value.slice none 0 0, Value.bool false] 29)) (lt_of_block (box_new w202 (Obj.cells #[Value.slice none 0 0, Value.bool false, Value.slice none 0 0, Value.bool false] 29)))); (try have z0 := box_below hb203 z0 (lt_of_block z0)))
    | (have gk := B1; go_at_call 36; refine (nmul_any _ _ _ n 2 41 2 (by omega) (by omega) (by first | exact n201 | exact (n201.below (below_alloc' (Below.refl _ _) (Nat.le_refl _) _))) (by first | exact Nt.below B1 | exact Nt.below (below_alloc' B1 (Nat.le_refl _) _))).mono ?_; rintro e w202 ⟨v202, rfl, n202, hb202⟩; have B2 : Below V.heap.size V w202 := (by first | exact chain2 B1 hb202 | exact chain2 (below_alloc' B1 (Nat.le_refl _) _) hb202); have s2 : Below w201.heap.size w201 w202 := (by first | exact hb202 | exact chain2 (below_alloc' (Below.refl _ _) (Nat.le_refl _) _) hb202); skip; (try have z0 := box_below hb202 (box_new w201 (Obj.cells #[Value.slice none 0 0, Value.bool false, Value.slice none 0 0, Value.bool false] 29)) (lt_of_block (box_new w201 (Obj.cells #[Value.slice none 0 0, Value.bool false, Value.slice none 0 0, Value.bool false] 29)))); (try have z0 := box_below hb202 z0 (lt_of_block z0)))
    | (go_at_call 19; refine (qnum_any _ _ n d 40 (by omega) (by first | exact Ra.below B0 | exact Ra.below (below_alloc' B0 (Nat.le_refl _) _))).mono ?_; rintro e w201 ⟨v201, rfl, n201, hb201⟩; have B1 : Below V.heap.size V w201 := (by first | exact chain2 B0 hb201 | exact chain2 (below_alloc' B0 (Nat.le_refl _) _) hb201); skip; (try have z0 := box_below hb201 (show (V.drew.alloc (Obj.cells #[Value.slice none 0 0, Value.bool false, Value.slice none 0 0, Value.bool false] 29)).heap[V.heap.size]? = some (Obj.cells #[Value.slice none 0 0, Value.bool false, Value.slice none 0 0, Value.bool false] 29) from box_new V.drew (Obj.cells #[Value.slice none 0 0, Value.bool false, Value.slice none 0 0, Value.bool false] 29)) (lt_of_block (box_new V.drew (Obj.cells #[Value.slice none 0 0, Value.bool false, Value.slice none 0 0, Value.bool false] 29))))))
    all_goals first | exact tail2 _ _ _ _ _ _ _ _ _ _ _ _ _ _ _ _ _ _ _ _ _ _ _ _ _ _ _ _ _ _ _ _ _ _ _ _ _ _ _ _ _ _ _ _ _ (p4_below B7 B6.size _ _ _ _) | exact tail2 _ _ _ _ _ _ _ _ _ _ _ _ _ _ _ _ _ _ _ _ _ _ _ _ _ _ _ _ _ _ _ _ _ _ _ _ _ _ _ _ _ _ _ _ _ (p4_below B7 B5.size _ _ _ _) | exact tail2 _ _ _ _ _ _ _ _ _ _ _ _ _ _ _ _ _ _ _ _ _ _ _ _ _ _ _ _ _ _ _ _ _ _ _ _ _ _ _ _ _ _ _ _ _ (p4_below B7 B4.size _ _ _ _) | exact tail2 _ _ _ _ _ _ _ _ _ _ _ _ _ _ _ _ _ _ _ _ _ _ _ _ _ _ _ _ _ _ _ _ _ _ _ _ _ _ _ _ _ _ _ _ _ (p4_below B7 B3.size _ _ _ _) | exact tail2 _ _ _ _ _ _ _ _ _ _ _ _ _ _ _ _ _ _ _ _ _ _ _ _ _ _ _ _ _ _ _ _ _ _ _ _ _ _ _ _ _ _ _ _ _ (p4_below B7 B2.size _ _ _ _) | exact tail2 _ _ _ _ _ _ _ _ _ _ _ _ _ _ _ _ _ _ _ _ _ _ _ _ _ _ _ _ _ _ _ _ _ _ _ _ _ _ _ _ _ _ _ _ _ (p4_below B7 B1.size _ _ _ _) | exact tail2 _ _ _ _ _ _ _ _ _ _ _ _ _ _ _ _ _ _ _ _ _ _ _ _ _ _ _ _ _ _ _ _ _ _ _ _ _ _ _ _ _ _ _ _ _ (p4_below B7 (Nat.le_refl _) _ _ _ _) | exact tail2 _ _ _ _ _ _ _ _ _ _ _ _ _ _ _ _ _ _ _ _ _ _ _ _ _ _ _ _ _ _ _ _ _ _ _ _ _ _ _ _ _ _ _ _ _ (below_alloc' B7 (Nat.le_refl _) _)
  go_region_held3 (fun w' => w'.cell? ⟨k1, 0, none⟩ = some (.slice a1 l1 c1) ∧ w'.cell? ⟨k1, 1, none⟩ = some (.bool d1) ∧ w'.cell? ⟨k1, 2, none⟩ = some (.slice a2 l2 c2) ∧ w'.cell? ⟨k1, 3, none⟩ = some (.bool d2) ∧ w'.cell? ⟨k2, 0, none⟩ = some (.slice a5 l5 c5) ∧ w'.cell? ⟨k2, 1, none⟩ = some (.bool d5)) ((refine keep6q t0 t1 t2 t3 t4 t5 ?_; first | exact B0 | exact B1 | exact B2 | exact B3 | exact B4 | exact B5 | exact below_alloc' B0 (Nat.le_refl _) _ | exact below_alloc' B1 (Nat.le_refl _) _ | exact below_alloc' B2 (Nat.le_refl _) _ | exact below_alloc' B3 (Nat.le_refl _) _ | exact below_alloc' B4 (Nat.le_refl _) _ | exact below_alloc' B5 (Nat.le_refl _) _ | exact p4_below B5 B0.size _ _ _ _ | exact p4_below B5 B1.size _ _ _ _ | exact p4_below B5 B2.size _ _ _ _ | exact p4_below B5 B3.size _ _ _ _ | exact p4_below B5 B4.size _ _ _ _)) (first
    | (have gk := B4; go_at_call 18; refine (qmake_any _ _ _ (n * 2) (d * 2) 45 (by omega) (by first | exact n102.mono (by omega) | exact (n102.below (below_alloc' (Below.refl _ _) (Nat.le_refl _) _)).mono (by omega)) (by first | exact n104 | exact (n104.below (below_alloc' (Below.refl _ _) (Nat.le_refl _) _)))).mono ?_; rintro e w105 ⟨⟨a6, l6, c6, d6, a7, l7, c7, d7, rfl, R5⟩, hb105⟩; have B5 : Below W2.heap.size W2 w105 := (by first | exact chain2 B4 hb105 | exact chain2 (below_alloc' B4 (Nat.le_refl _) _) hb105); have s5 : Below w104.heap.size w104 w105 := (by first | exact hb105 | exact chain2 (below_alloc' (Below.refl _ _) (Nat.le_refl _) _) hb105); rw [mkN, if_neg hd2, mkD, if_neg hd2, L1.1, L1.2] at R5; rw [HE.out]; (try have z0 := box_below hb105 (box_new w104 (Obj.cells #[Value.slice none 0 0, Value.bool false, Value.slice none 0 0, Value.bool false] 29)) (lt_of_block (box_new w104 (Obj.cells #[Value.slice none 0 0, Value.bool false, Value.slice none 0 0, Value.bool false] 29)))); (try have z0 := box_below hb105 z0 (lt_of_block z0)); (try have z1 := four_cell z0); (try obtain ⟨i0, i1, i2, i3⟩ := z1); (try have z4 := p4_free z0))
    | (have gk := B3; go_at_call 36; refine (nmul_any _ _ _ d 2 43 2 (by omega) (by omega) (by first | exact n103 | exact (n103.below (below_alloc' (Below.refl _ _) (Nat.le_refl _) _))) (by first | exact Nt.below B3 | exact Nt.below (below_alloc' B3 (Nat.le_refl _) _))).mono ?_; rintro e w104 ⟨v104, rfl, n104, hb104⟩; have B4 : Below W2.heap.size W2 w104 := (by first | exact chain2 B3 hb104 | exact chain2 (below_alloc' B3 (Nat.le_refl _) _) hb104); have s4 : Below w103.heap.size w103 w104 := (by first | exact hb104 | exact chain2 (below_alloc' (Below.refl _ _) (Nat.le_refl _) _) hb104); have n102 := n102.below s4; (try have z0 := box_below hb104 (box_new w103 (Obj.cells #[Value.slice none 0 0, Value.bool false, Value.slice none 0 0, Value.bool false] 29)) (lt_of_block (box_new w103 (Obj.cells #[Value.slice none 0 0, Value.bool false, Value.slice none 0 0, Value.bool false] 29)))); (try have z0 := box_below hb104 z0 (lt_of_block z0)))
    | (have gk := B2; go_at_call 20; refine (qden_any _ _ n d 40 (by omega) (by first | exact Ra.below B2 | exact Ra.below (below_alloc' B2 (Nat.le_refl _) _))).mono ?_; rintro e w103 ⟨v103, rfl, n103, hb103⟩; have B3 : Below W2.heap.size W2 w103 := (by first | exact chain2 B2 hb103 | exact chain2 (below_alloc' B2 (Nat.le_refl _) _) hb103); have s3 : Below w102.heap.size w102 w103 := (by first | exact hb103 | exact chain2 (below_alloc' (Below.refl _ _) (Nat.le_refl _) _) hb103); have n102 := n102.below s3; (try have z0 := box_below hb103 (box_new w102 (Obj.cells #[Value.slice none 0 0, Value.bool false, Value.slice none 0 0, Value.bool false] 29)) (lt_of_block (box_new w102 (Obj.cells #[Value.slice none 0 0, Value.bool false, Value.slice none 0 0, Value.bool false] 29)))); (try have z0 := box_below hb103 z0 (lt_of_block z0)))
    | (have gk := B1; go_at_call 36; refine (nmul_any _ _ _ n 2 41 2 (by omega) (by omega) (by first | exact n101 | exact (n101.below (below_alloc' (Below.refl _ _) (Nat.le_refl _) _))) (by first | exact Nt.below B1 | exact Nt.below (below_alloc' B1 (Nat.le_refl _) _))).mono ?_; rintro e w102 ⟨v102, rfl, n102, hb102⟩; have B2 : Below W2.heap.size W2 w102 := (by first | exact chain2 B1 hb102 | exact chain2 (below_alloc' B1 (Nat.le_refl _) _) hb102); have s2 : Below w101.heap.size w101 w102 := (by first | exact hb102 | exact chain2 (below_alloc' (Below.refl _ _) (Nat.le_refl _) _) hb102); skip; (try have z0 := box_below hb102 (box_new w101 (Obj.cells #[Value.slice none 0 0, Value.bool false, Value.slice none 0 0, Value.bool false] 29)) (lt_of_block (box_new w101 (Obj.cells #[Value.slice none 0 0, Value.bool false, Value.slice none 0 0, Value.bool false] 29)))); (try have z0 := box_below hb102 z0 (lt_of_block z0)))
    | (go_at_call 19; refine (qnum_any _ _ n d 40 (by omega) (by first | exact Ra.below B0 | exact Ra.below (below_alloc' B0 (Nat.le_refl _) _))).mono ?_; rintro e w101 ⟨v101, rfl, n101, hb101⟩; have B1 : Below W2.heap.size W2 w101 := (by first | exact chain2 B0 hb101 | exact chain2 (below_alloc' B0 (Nat.le_refl _) _) hb101); skip; (try have z0 := box_below hb101 (show (W2.drew.alloc (Obj.cells #[Value.slice none 0 0, Value.bool false, Value.slice none 0 0, Value.bool false] 29)).heap[W2.heap.size]? = some (Obj.cells #[Value.slice none 0 0, Value.bool false, Value.slice none 0 0, Value.bool false] 29) from box_new W2.drew (Obj.cells #[Value.slice none 0 0, Value.bool false, Value.slice none 0 0, Value.bool false] 29)) (lt_of_block (box_new W2.drew (Obj.cells #[Value.slice none 0 0, Value.bool false, Value.slice none 0 0, Value.bool false] 29))))))
  all_goals first | exact tail1 _ _ _ _ _ _ _ _ _ _ _ _ _ _ _ _ _ _ _ _ _ _ _ _ _ _ _ _ _ _ _ _ _ _ _ _ _ (qend_set4 B5 z0 B4.size R5 _ _ _ _) | exact tail1 _ _ _ _ _ _ _ _ _ _ _ _ _ _ _ _ _ _ _ _ _ _ _ _ _ _ _ _ _ _ _ _ _ _ _ _ _ (qend_set4 B5 z0 B3.size R5 _ _ _ _) | exact tail1 _ _ _ _ _ _ _ _ _ _ _ _ _ _ _ _ _ _ _ _ _ _ _ _ _ _ _ _ _ _ _ _ _ _ _ _ _ (qend_set4 B5 z0 B2.size R5 _ _ _ _) | exact tail1 _ _ _ _ _ _ _ _ _ _ _ _ _ _ _ _ _ _ _ _ _ _ _ _ _ _ _ _ _ _ _ _ _ _ _ _ _ (qend_set4 B5 z0 B1.size R5 _ _ _ _) | exact tail1 _ _ _ _ _ _ _ _ _ _ _ _ _ _ _ _ _ _ _ _ _ _ _ _ _ _ _ _ _ _ _ _ _ _ _ _ _ (qend_set4 B5 z0 (Nat.le_refl _) R5 _ _ _ _) | exact tail1 _ _ _ _ _ _ _ _ _ _ _ _ _ _ _ _ _ _ _ _ _ _ _ _ _ _ _ _ _ _ _ _ _ _ _ _ _ (qend_new4 B5 R5 _ _ _ _)
end Go.Proofs.YtnmfffgcepobpaaGreatDoor
