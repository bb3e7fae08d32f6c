/- order: fill, kind by kind. -/
import Derived.Test.YthhikmlbpagknaaDoorKQuant
import Derived.Deep.RegionHeld3
namespace Go.Proofs.YthhikmlbpagknaaDoor
open Go.RowKit
set_option linter.unusedVariables false
set_option maxRecDepth 100000
set_option linter.unusedSimpArgs false

set_option maxHeartbeats 6400000 in
theorem lockfill_any (A : Nat → Prop) (w : World) (lb fb : Nat) (g : Gd) (lv : Value) (x1 : ByteArray) (e : Int) (c0 c1 c2 c3 c4 c5 c6 c7 c8 c9 c10 c11 c12 c13 c14 c15 c16 c17 : Value) (hl : w.heap[lb]? = some (.cells #[c0, c1, c2, c3, c4, c5, c6, c7, c8, c9, c10, c11, c12, c13, c14, c15, c16, c17] 67 (0, 0))) (hA : A lb) (hne : ¬ lb = fb) (h : FAt A w fb g lv [x1] e) :
    Calls Tryd.prog 75 #[.pointer (some ⟨lb, 0, none⟩), .pointer (some ⟨fb, 0, none⟩)] w fun r w' => r = .returned (.tuple #[]) ∧ w'.heap[lb]? = some (.cells #[c0, .int .i64 (numR x1), c2, c3, c4, c5, c6, c7, c8, c9, c10, c11, c12, c13, c14, c15, c16, c17] 67 (0, 0)) ∧ FAt A w' fb g lv [] (orE e (numF x1 1 1000000000 92)) ∧ Kx (fun b => b = fb ∨ b = lb) w w' := by
  obtain ⟨g1, g2, g3, g4, -, hfb⟩ := h.grid
  have hlb := lt_of_block hl
  have K0 : Kx (fun b => b = fb ∨ b = lb) w w := Kx.refl _ _
  go_enter Tryd.func75, Tryd.ntmps75
  go_wp2_with fail
  refine (fnumber_any A _ fb g lv x1 [] e 1 1000000000 92 h).mono ?_
  rintro r1 w1 ⟨rfl, f1, k1⟩
  have l1 := k1.blk hl (fun k => hne k)
  have q1 := blk_cell l1 1 (c1) rfl
  have fr1 := blk_free l1 1
  have F1 := f1.set hA hne 1 (.int .i64 (numR x1))
  have L1 : (w1.setCell ⟨lb, 1, none⟩ (.int .i64 (numR x1))).heap[lb]? = some (.cells #[c0, .int .i64 (numR x1), c2, c3, c4, c5, c6, c7, c8, c9, c10, c11, c12, c13, c14, c15, c16, c17] 67 (0, 0)) := blk_set l1
  have K1 : Kx (fun b => b = fb ∨ b = lb) w (w1.setCell ⟨lb, 1, none⟩ (.int .i64 (numR x1))) := Kx.set (S := fun b => b = fb ∨ b = lb) (g := lb) (K0.trans (k1.mono (fun b hb => Or.inl hb))) (Or.inr rfl) _
  obtain ⟨g1, g2, g3, g4, -, -⟩ := F1.grid
  go_wp2
  go_end0
  exact ⟨rfl, L1, F1, K1⟩
set_option maxHeartbeats 6400000 in
theorem cancelfill_any (A : Nat → Prop) (w : World) (lb fb : Nat) (g : Gd) (lv : Value) (x1 : ByteArray) (e : Int) (c0 c1 c2 c3 c4 c5 c6 c7 c8 c9 c10 c11 c12 c13 c14 c15 c16 c17 : Value) (hl : w.heap[lb]? = some (.cells #[c0, c1, c2, c3, c4, c5, c6, c7, c8, c9, c10, c11, c12, c13, c14, c15, c16, c17] 75 (0, 0))) (hA : A lb) (hne : ¬ lb = fb) (h : FAt A w fb g lv [x1] e) :
    Calls Tryd.prog 116 #[.pointer (some ⟨lb, 0, none⟩), .pointer (some ⟨fb, 0, none⟩)] w fun r w' => r = .returned (.tuple #[]) ∧ w'.heap[lb]? = some (.cells #[c0, c1, .int .i64 (numR x1), c3, c4, c5, c6, c7, c8, c9, c10, c11, c12, c13, c14, c15, c16, c17] 75 (0, 0)) ∧ FAt A w' fb g lv [] (orE e (numF x1 1 1000 92)) ∧ Kx (fun b => b = fb ∨ b = lb) w w' := by
  obtain ⟨g1, g2, g3, g4, -, hfb⟩ := h.grid
  have hlb := lt_of_block hl
  have K0 : Kx (fun b => b = fb ∨ b = lb) w w := Kx.refl _ _
  go_enter Tryd.func116, Tryd.ntmps116
  go_wp2_with fail
  refine (fnumber_any A _ fb g lv x1 [] e 1 1000 92 h).mono ?_
  rintro r1 w1 ⟨rfl, f1, k1⟩
  have l1 := k1.blk hl (fun k => hne k)
  have q1 := blk_cell l1 2 (c2) rfl
  have fr1 := blk_free l1 2
  have F1 := f1.set hA hne 2 (.int .i64 (numR x1))
  have L1 : (w1.setCell ⟨lb, 2, none⟩ (.int .i64 (numR x1))).heap[lb]? = some (.cells #[c0, c1, .int .i64 (numR x1), c3, c4, c5, c6, c7, c8, c9, c10, c11, c12, c13, c14, c15, c16, c17] 75 (0, 0)) := blk_set l1
  have K1 : Kx (fun b => b = fb ∨ b = lb) w (w1.setCell ⟨lb, 2, none⟩ (.int .i64 (numR x1))) := Kx.set (S := fun b => b = fb ∨ b = lb) (g := lb) (K0.trans (k1.mono (fun b hb => Or.inl hb))) (Or.inr rfl) _
  obtain ⟨g1, g2, g3, g4, -, -⟩ := F1.grid
  go_wp2
  go_end0
  exact ⟨rfl, L1, F1, K1⟩
set_option maxHeartbeats 6400000 in
theorem stepfill_any (A : Nat → Prop) (w : World) (lb fb : Nat) (g : Gd) (lv : Value) (x1 x2 x3 x4 x5 x6 : ByteArray) (e : Int) (c0 c1 c2 c3 c4 c5 c6 : Value) (hl : w.heap[lb]? = some (.cells #[c0, c1, c2, c3, c4, c5, c6] 70 (0, 0))) (hA : A lb) (hne : ¬ lb = fb) (h : FAt A w fb g lv [x1, x2, x3, x4, x5, x6] e) (hzones : g.zones ≤ 9223372036854775807) (hhours : g.hours ≤ 9223372036854775807) :
    Calls Tryd.prog 98 #[.pointer (some ⟨lb, 0, none⟩), .pointer (some ⟨fb, 0, none⟩)] w fun r w' => r = .returned (.tuple #[]) ∧ w'.heap[lb]? = some (.cells #[c0, .int .i64 (numR x1), .int .i64 (numR x2), .int .i64 (numR x3), .bool (decide (x4 = buyB)), .int .i64 (numR x5), .int .i64 (numR x6)] 70 (0, 0)) ∧ FAt A w' fb g lv [] (orE (orE (orE (orE (orE (orE e (numF x1 1 1000 92)) (numF x2 0 (top g.zones) 93)) (numF x3 0 (top g.hours) 94)) (sideF x4)) (numF x5 1 1000 95)) (numF x6 g.low g.high 96)) ∧ Kx (fun b => b = fb ∨ b = lb) w w' := by
  obtain ⟨g1, g2, g3, g4, -, hfb⟩ := h.grid
  have hlb := lt_of_block hl
  have K0 : Kx (fun b => b = fb ∨ b = lb) w w := Kx.refl _ _
  go_enter Tryd.func98, Tryd.ntmps98
  go_wp2_with fail
  refine (fnumber_any A _ fb g lv x1 [x2, x3, x4, x5, x6] e 1 1000 92 h).mono ?_
  rintro r1 w1 ⟨rfl, f1, k1⟩
  have l1 := k1.blk hl (fun k => hne k)
  have q1 := blk_cell l1 1 (c1) rfl
  have fr1 := blk_free l1 1
  have F1 := f1.set hA hne 1 (.int .i64 (numR x1))
  have L1 : (w1.setCell ⟨lb, 1, none⟩ (.int .i64 (numR x1))).heap[lb]? = some (.cells #[c0, .int .i64 (numR x1), c2, c3, c4, c5, c6] 70 (0, 0)) := blk_set l1
  have K1 : Kx (fun b => b = fb ∨ b = lb) w (w1.setCell ⟨lb, 1, none⟩ (.int .i64 (numR x1))) := Kx.set (S := fun b => b = fb ∨ b = lb) (g := lb) (K0.trans (k1.mono (fun b hb => Or.inl hb))) (Or.inr rfl) _
  obtain ⟨g1, g2, g3, g4, -, -⟩ := F1.grid
  go_wp2_with fail
  generalize w1.setCell ⟨lb, 1, none⟩ (.int .i64 (numR x1)) = W1 at *
  clear l1 q1 fr1 f1 k1
  go_wp2_with fail
  refine (fplace_any A _ fb g lv x2 [x3, x4, x5, x6] (orE e (numF x1 1 1000 92)) g.zones 93 F1 hzones).mono ?_
  rintro r2 w2 ⟨rfl, f2, k2⟩
  have l2 := k2.blk L1 (fun k => hne k)
  have q2 := blk_cell l2 2 (c2) rfl
  have fr2 := blk_free l2 2
  have F2 := f2.set hA hne 2 (.int .i64 (numR x2))
  have L2 : (w2.setCell ⟨lb, 2, none⟩ (.int .i64 (numR x2))).heap[lb]? = some (.cells #[c0, .int .i64 (numR x1), .int .i64 (numR x2), c3, c4, c5, c6] 70 (0, 0)) := blk_set l2
  have K2 : Kx (fun b => b = fb ∨ b = lb) w (w2.setCell ⟨lb, 2, none⟩ (.int .i64 (numR x2))) := Kx.set (S := fun b => b = fb ∨ b = lb) (g := lb) (K1.trans (k2.mono (fun b hb => Or.inl hb))) (Or.inr rfl) _
  obtain ⟨g1, g2, g3, g4, -, -⟩ := F2.grid
  go_wp2_with fail
  generalize w2.setCell ⟨lb, 2, none⟩ (.int .i64 (numR x2)) = W2 at *
  clear l2 q2 fr2 f2 k2
  go_wp2_with fail
  refine (fplace_any A _ fb g lv x3 [x4, x5, x6] (orE (orE e (numF x1 1 1000 92)) (numF x2 0 (top g.zones) 93)) g.hours 94 F2 hhours).mono ?_
  rintro r3 w3 ⟨rfl, f3, k3⟩
  have l3 := k3.blk L2 (fun k => hne k)
  have q3 := blk_cell l3 3 (c3) rfl
  have fr3 := blk_free l3 3
  have F3 := f3.set hA hne 3 (.int .i64 (numR x3))
  have L3 : (w3.setCell ⟨lb, 3, none⟩ (.int .i64 (numR x3))).heap[lb]? = some (.cells #[c0, .int .i64 (numR x1), .int .i64 (numR x2), .int .i64 (numR x3), c4, c5, c6] 70 (0, 0)) := blk_set l3
  have K3 : Kx (fun b => b = fb ∨ b = lb) w (w3.setCell ⟨lb, 3, none⟩ (.int .i64 (numR x3))) := Kx.set (S := fun b => b = fb ∨ b = lb) (g := lb) (K2.trans (k3.mono (fun b hb => Or.inl hb))) (Or.inr rfl) _
  obtain ⟨g1, g2, g3, g4, -, -⟩ := F3.grid
  go_wp2_with fail
  generalize w3.setCell ⟨lb, 3, none⟩ (.int .i64 (numR x3)) = W3 at *
  clear l3 q3 fr3 f3 k3
  go_wp2_with fail
  refine (fside_any A _ fb g lv x4 [x5, x6] (orE (orE (orE e (numF x1 1 1000 92)) (numF x2 0 (top g.zones) 93)) (numF x3 0 (top g.hours) 94)) F3).mono ?_
  rintro r4 w4 ⟨rfl, f4, k4⟩
  have l4 := k4.blk L3 (fun k => hne k)
  have q4 := blk_cell l4 4 (c4) rfl
  have fr4 := blk_free l4 4
  have F4 := f4.set hA hne 4 (.bool (decide (x4 = buyB)))
  have L4 : (w4.setCell ⟨lb, 4, none⟩ (.bool (decide (x4 = buyB)))).heap[lb]? = some (.cells #[c0, .int .i64 (numR x1), .int .i64 (numR x2), .int .i64 (numR x3), .bool (decide (x4 = buyB)), c5, c6] 70 (0, 0)) := blk_set l4
  have K4 : Kx (fun b => b = fb ∨ b = lb) w (w4.setCell ⟨lb, 4, none⟩ (.bool (decide (x4 = buyB)))) := Kx.set (S := fun b => b = fb ∨ b = lb) (g := lb) (K3.trans (k4.mono (fun b hb => Or.inl hb))) (Or.inr rfl) _
  obtain ⟨g1, g2, g3, g4, -, -⟩ := F4.grid
  go_wp2_with fail
  generalize w4.setCell ⟨lb, 4, none⟩ (.bool (decide (x4 = buyB))) = W4 at *
  clear l4 q4 fr4 f4 k4
  go_wp2_with fail
  refine (fnumber_any A _ fb g lv x5 [x6] (orE (orE (orE (orE e (numF x1 1 1000 92)) (numF x2 0 (top g.zones) 93)) (numF x3 0 (top g.hours) 94)) (sideF x4)) 1 1000 95 F4).mono ?_
  rintro r5 w5 ⟨rfl, f5, k5⟩
  have l5 := k5.blk L4 (fun k => hne k)
  have q5 := blk_cell l5 5 (c5) rfl
  have fr5 := blk_free l5 5
  have F5 := f5.set hA hne 5 (.int .i64 (numR x5))
  have L5 : (w5.setCell ⟨lb, 5, none⟩ (.int .i64 (numR x5))).heap[lb]? = some (.cells #[c0, .int .i64 (numR x1), .int .i64 (numR x2), .int .i64 (numR x3), .bool (decide (x4 = buyB)), .int .i64 (numR x5), c6] 70 (0, 0)) := blk_set l5
  have K5 : Kx (fun b => b = fb ∨ b = lb) w (w5.setCell ⟨lb, 5, none⟩ (.int .i64 (numR x5))) := Kx.set (S := fun b => b = fb ∨ b = lb) (g := lb) (K4.trans (k5.mono (fun b hb => Or.inl hb))) (Or.inr rfl) _
  obtain ⟨g1, g2, g3, g4, -, -⟩ := F5.grid
  go_wp2_with fail
  generalize w5.setCell ⟨lb, 5, none⟩ (.int .i64 (numR x5)) = W5 at *
  clear l5 q5 fr5 f5 k5
  go_wp2_with fail
  have D0 : W5.drew.cell? ⟨fb, 4, none⟩ = some (.int .i64 g.low) ∧ W5.drew.cell? ⟨fb, 5, none⟩ = some (.int .i64 g.high) := ⟨by simpa using g3, by simpa using g4⟩
  have bd : Below W5.heap.size W5 W5.drew := ⟨rfl, rfl, rfl, Nat.le_refl _, fun _ _ => rfl⟩
  have FD := FAt.kx F5 bd
  have LD := blk_below L5 bd
  have KD : Kx (fun b => b = fb ∨ b = lb) w W5.drew := K5.trans (Kx.of_below bd)
  go_region_held3 (fun X => X.cell? ⟨fb, 4, none⟩ = some (.int .i64 g.low) ∧ X.cell? ⟨fb, 5, none⟩ = some (.int .i64 g.high)) (first | exact D0 | exact ⟨g3, g4⟩ | exact ⟨f6.grid.2.2.1, f6.grid.2.2.2.1⟩) (first
    | (go_at_call 77; refine (fnumber_any A _ fb g lv x6 [] (orE (orE (orE (orE (orE e (numF x1 1 1000 92)) (numF x2 0 (top g.zones) 93)) (numF x3 0 (top g.hours) 94)) (sideF x4)) (numF x5 1 1000 95)) g.low g.high 96 FD).mono ?_; rintro r6 w6 ⟨rfl, f6, k6⟩; have l6 := k6.blk LD (fun k => hne k); have q6 := blk_cell l6 6 (c6) rfl; have fr6 := blk_free l6 6; have F6 := f6.set hA hne 6 (.int .i64 (numR x6)); have L6 : (w6.setCell ⟨lb, 6, none⟩ (.int .i64 (numR x6))).heap[lb]? = some (.cells #[c0, .int .i64 (numR x1), .int .i64 (numR x2), .int .i64 (numR x3), .bool (decide (x4 = buyB)), .int .i64 (numR x5), .int .i64 (numR x6)] 70 (0, 0)) := blk_set l6; have K6 : Kx (fun b => b = fb ∨ b = lb) w (w6.setCell ⟨lb, 6, none⟩ (.int .i64 (numR x6))) := Kx.set (S := fun b => b = fb ∨ b = lb) (g := lb) (KD.trans (k6.mono (fun b hb => Or.inl hb))) (Or.inr rfl) _; obtain ⟨g1, g2, g3, g4, -, -⟩ := F6.grid))
  generalize w6.setCell ⟨lb, 6, none⟩ (.int .i64 (numR x6)) = W6 at *
  clear l6 q6 fr6 f6 k6 D0 bd FD LD KD
  go_wp2
  go_end0
  exact ⟨rfl, L6, F6, K6⟩
set_option maxHeartbeats 6400000 in
theorem blockfill_any (A : Nat → Prop) (w : World) (lb fb : Nat) (g : Gd) (lv : Value) (x1 x2 x3 x4 x5 x6 x7 : ByteArray) (e : Int) (c0 c1 c2 c3 c4 c5 c6 c7 : Value) (hl : w.heap[lb]? = some (.cells #[c0, c1, c2, c3, c4, c5, c6, c7] 73 (0, 0))) (hA : A lb) (hne : ¬ lb = fb) (h : FAt A w fb g lv [x1, x2, x3, x4, x5, x6, x7] e) (hzones : g.zones ≤ 9223372036854775807) (hm : Mx w) (h0 : fb ≠ 0) (h1 : lb ≠ 0) :
    Calls Tryd.prog 104 #[.pointer (some ⟨lb, 0, none⟩), .pointer (some ⟨fb, 0, none⟩)] w fun r w' => r = .returned (.tuple #[]) ∧ (∃ qv, w'.heap[lb]? = some (.cells #[c0, .int .i64 (numR x1), .int .i64 (numR x2), .bool (decide (x3 = buyB)), .int .i64 (numR x4), qv, .int .i64 (numR x6), .int .i64 (numR x7)] 73 (0, 0)) ∧ Ints w' qv (numsL x5) ∧ Fresh w.heap.size qv) ∧ FAt A w' fb g lv [] (orE (orE (orE (orE (orE (orE (orE e (numF x1 1 1000 92)) (numF x2 0 (top g.zones) 93)) (sideF x3)) (numF x4 g.low g.high 96)) (qF x5 g.hours)) (numF x6 0 1000 92)) (numF x7 0 9 92)) ∧ Kx (fun b => b = fb ∨ b = lb) w w' := by
  obtain ⟨g1, g2, g3, g4, -, hfb⟩ := h.grid
  have hlb := lt_of_block hl
  have hm0 : ∀ X, Kx (fun b => b = fb ∨ b = lb) w X → Mx X := fun X k => by
    obtain ⟨m, hm⟩ := hm
    exact ⟨m, k.cell hm (fun k => k.elim (fun e => h0 e.symm) (fun e => h1 e.symm))⟩
  clear hm
  have K0 : Kx (fun b => b = fb ∨ b = lb) w w := Kx.refl _ _
  go_enter Tryd.func104, Tryd.ntmps104
  go_wp2_with fail
  refine (fnumber_any A _ fb g lv x1 [x2, x3, x4, x5, x6, x7] e 1 1000 92 h).mono ?_
  rintro r1 w1 ⟨rfl, f1, k1⟩
  have l1 := k1.blk hl (fun k => hne k)
  have q1 := blk_cell l1 1 (c1) rfl
  have fr1 := blk_free l1 1
  have F1 := f1.set hA hne 1 (.int .i64 (numR x1))
  have L1 : (w1.setCell ⟨lb, 1, none⟩ (.int .i64 (numR x1))).heap[lb]? = some (.cells #[c0, .int .i64 (numR x1), c2, c3, c4, c5, c6, c7] 73 (0, 0)) := blk_set l1
  have K1 : Kx (fun b => b = fb ∨ b = lb) w (w1.setCell ⟨lb, 1, none⟩ (.int .i64 (numR x1))) := Kx.set (S := fun b => b = fb ∨ b = lb) (g := lb) (K0.trans (k1.mono (fun b hb => Or.inl hb))) (Or.inr rfl) _
  obtain ⟨g1, g2, g3, g4, -, -⟩ := F1.grid
  go_wp2_with fail
  generalize w1.setCell ⟨lb, 1, none⟩ (.int .i64 (numR x1)) = W1 at *
  clear l1 q1 fr1 f1 k1
  go_wp2_with fail
  refine (fplace_any A _ fb g lv x2 [x3, x4, x5, x6, x7] (orE e (numF x1 1 1000 92)) g.zones 93 F1 hzones).mono ?_
  rintro r2 w2 ⟨rfl, f2, k2⟩
  have l2 := k2.blk L1 (fun k => hne k)
  have q2 := blk_cell l2 2 (c2) rfl
  have fr2 := blk_free l2 2
  have F2 := f2.set hA hne 2 (.int .i64 (numR x2))
  have L2 : (w2.setCell ⟨lb, 2, none⟩ (.int .i64 (numR x2))).heap[lb]? = some (.cells #[c0, .int .i64 (numR x1), .int .i64 (numR x2), c3, c4, c5, c6, c7] 73 (0, 0)) := blk_set l2
  have K2 : Kx (fun b => b = fb ∨ b = lb) w (w2.setCell ⟨lb, 2, none⟩ (.int .i64 (numR x2))) := Kx.set (S := fun b => b = fb ∨ b = lb) (g := lb) (K1.trans (k2.mono (fun b hb => Or.inl hb))) (Or.inr rfl) _
  obtain ⟨g1, g2, g3, g4, -, -⟩ := F2.grid
  go_wp2_with fail
  generalize w2.setCell ⟨lb, 2, none⟩ (.int .i64 (numR x2)) = W2 at *
  clear l2 q2 fr2 f2 k2
  go_wp2_with fail
  refine (fside_any A _ fb g lv x3 [x4, x5, x6, x7] (orE (orE e (numF x1 1 1000 92)) (numF x2 0 (top g.zones) 93)) F2).mono ?_
  rintro r3 w3 ⟨rfl, f3, k3⟩
  have l3 := k3.blk L2 (fun k => hne k)
  have q3 := blk_cell l3 3 (c3) rfl
  have fr3 := blk_free l3 3
  have F3 := f3.set hA hne 3 (.bool (decide (x3 = buyB)))
  have L3 : (w3.setCell ⟨lb, 3, none⟩ (.bool (decide (x3 = buyB)))).heap[lb]? = some (.cells #[c0, .int .i64 (numR x1), .int .i64 (numR x2), .bool (decide (x3 = buyB)), c4, c5, c6, c7] 73 (0, 0)) := blk_set l3
  have K3 : Kx (fun b => b = fb ∨ b = lb) w (w3.setCell ⟨lb, 3, none⟩ (.bool (decide (x3 = buyB)))) := Kx.set (S := fun b => b = fb ∨ b = lb) (g := lb) (K2.trans (k3.mono (fun b hb => Or.inl hb))) (Or.inr rfl) _
  obtain ⟨g1, g2, g3, g4, -, -⟩ := F3.grid
  go_wp2_with fail
  generalize w3.setCell ⟨lb, 3, none⟩ (.bool (decide (x3 = buyB))) = W3 at *
  clear l3 q3 fr3 f3 k3
  go_wp2_with fail
  have D0 : W3.drew.cell? ⟨fb, 4, none⟩ = some (.int .i64 g.low) ∧ W3.drew.cell? ⟨fb, 5, none⟩ = some (.int .i64 g.high) := ⟨by simpa using g3, by simpa using g4⟩
  have bd : Below W3.heap.size W3 W3.drew := ⟨rfl, rfl, rfl, Nat.le_refl _, fun _ _ => rfl⟩
  have FD := FAt.kx F3 bd
  have LD := blk_below L3 bd
  have KD : Kx (fun b => b = fb ∨ b = lb) w W3.drew := K3.trans (Kx.of_below bd)
  go_region_held3 (fun X => X.cell? ⟨fb, 4, none⟩ = some (.int .i64 g.low) ∧ X.cell? ⟨fb, 5, none⟩ = some (.int .i64 g.high)) (first | exact D0 | exact ⟨g3, g4⟩ | exact ⟨f4.grid.2.2.1, f4.grid.2.2.2.1⟩) (first
    | (go_at_call 77; refine (fnumber_any A _ fb g lv x4 [x5, x6, x7] (orE (orE (orE e (numF x1 1 1000 92)) (numF x2 0 (top g.zones) 93)) (sideF x3)) g.low g.high 96 FD).mono ?_; rintro r4 w4 ⟨rfl, f4, k4⟩; have l4 := k4.blk LD (fun k => hne k); have q4 := blk_cell l4 4 (c4) rfl; have fr4 := blk_free l4 4; have F4 := f4.set hA hne 4 (.int .i64 (numR x4)); have L4 : (w4.setCell ⟨lb, 4, none⟩ (.int .i64 (numR x4))).heap[lb]? = some (.cells #[c0, .int .i64 (numR x1), .int .i64 (numR x2), .bool (decide (x3 = buyB)), .int .i64 (numR x4), c5, c6, c7] 73 (0, 0)) := blk_set l4; have K4 : Kx (fun b => b = fb ∨ b = lb) w (w4.setCell ⟨lb, 4, none⟩ (.int .i64 (numR x4))) := Kx.set (S := fun b => b = fb ∨ b = lb) (g := lb) (KD.trans (k4.mono (fun b hb => Or.inl hb))) (Or.inr rfl) _; obtain ⟨g1, g2, g3, g4, -, -⟩ := F4.grid))
  generalize w4.setCell ⟨lb, 4, none⟩ (.int .i64 (numR x4)) = W4 at *
  clear l4 q4 fr4 f4 k4 D0 bd FD LD KD
  go_wp2_with fail
  refine (fquant_any A _ fb g lv x5 [x6, x7] (orE (orE (orE (orE e (numF x1 1 1000 92)) (numF x2 0 (top g.zones) 93)) (sideF x3)) (numF x4 g.low g.high 96)) F4 (hm0 _ K4) h0).mono ?_
  rintro r5 w5 ⟨⟨qv, rfl, i5, n5⟩, f5, k5⟩
  have l5 := k5.blk L4 (fun k => hne k)
  have q5 := blk_cell l5 5 (c5) rfl
  have fr5 := blk_free l5 5
  have F5 := f5.set hA hne 5 (qv)
  have L5 : (w5.setCell ⟨lb, 5, none⟩ (qv)).heap[lb]? = some (.cells #[c0, .int .i64 (numR x1), .int .i64 (numR x2), .bool (decide (x3 = buyB)), .int .i64 (numR x4), qv, c6, c7] 73 (0, 0)) := blk_set l5
  have K5 : Kx (fun b => b = fb ∨ b = lb) w (w5.setCell ⟨lb, 5, none⟩ (qv)) := Kx.set (S := fun b => b = fb ∨ b = lb) (g := lb) (K4.trans (k5.mono (fun b hb => Or.inl hb))) (Or.inr rfl) _
  obtain ⟨g1, g2, g3, g4, -, -⟩ := F5.grid
  have hsz := K4.size
  have I5 : Ints (w5.setCell ⟨lb, 5, none⟩ (qv)) qv (numsL x5) := Row1.kx i5 (Kx.set (S := fun b => b = lb) (g := lb) (Kx.refl _ w5) rfl _) (fun b off n c e' k => by have := n5 b off n c e'; omega)
  have N5 : Fresh w.heap.size qv := n5.mono (by omega)
  obtain ⟨qa, qn, qc, hqv⟩ : ∃ a n c, qv = .slice a n c := by obtain ⟨a, c, hv, _⟩ := i5.slice; exact ⟨_, _, _, hv⟩
  subst hqv
  go_wp2_with fail
  generalize w5.setCell ⟨lb, 5, none⟩ (.slice qa qn qc) = W5 at *
  clear l5 q5 fr5 f5 k5 i5 n5
  go_wp2_with fail
  refine (fnumber_any A _ fb g lv x6 [x7] (orE (orE (orE (orE (orE e (numF x1 1 1000 92)) (numF x2 0 (top g.zones) 93)) (sideF x3)) (numF x4 g.low g.high 96)) (qF x5 g.hours)) 0 1000 92 F5).mono ?_
  rintro r6 w6 ⟨rfl, f6, k6⟩
  have l6 := k6.blk L5 (fun k => hne k)
  have q6 := blk_cell l6 6 (c6) rfl
  have fr6 := blk_free l6 6
  have F6 := f6.set hA hne 6 (.int .i64 (numR x6))
  have L6 : (w6.setCell ⟨lb, 6, none⟩ (.int .i64 (numR x6))).heap[lb]? = some (.cells #[c0, .int .i64 (numR x1), .int .i64 (numR x2), .bool (decide (x3 = buyB)), .int .i64 (numR x4), .slice qa qn qc, .int .i64 (numR x6), c7] 73 (0, 0)) := blk_set l6
  have K6 : Kx (fun b => b = fb ∨ b = lb) w (w6.setCell ⟨lb, 6, none⟩ (.int .i64 (numR x6))) := Kx.set (S := fun b => b = fb ∨ b = lb) (g := lb) (K5.trans (k6.mono (fun b hb => Or.inl hb))) (Or.inr rfl) _
  obtain ⟨g1, g2, g3, g4, -, -⟩ := F6.grid
  have I6 : Ints (w6.setCell ⟨lb, 6, none⟩ (.int .i64 (numR x6))) (.slice qa qn qc) (numsL x5) := (Row1.kx I5 k6 (fun b off n c e' k => by have := N5 b off n c e'; omega)).kx (Kx.set (S := fun b => b = lb) (g := lb) (Kx.refl _ w6) rfl _) (fun b off n c e' k => by have := N5 b off n c e'; omega)
  go_wp2_with fail
  generalize w6.setCell ⟨lb, 6, none⟩ (.int .i64 (numR x6)) = W6 at *
  clear l6 q6 fr6 f6 k6
  go_wp2_with fail
  refine (fnumber_any A _ fb g lv x7 [] (orE (orE (orE (orE (orE (orE e (numF x1 1 1000 92)) (numF x2 0 (top g.zones) 93)) (sideF x3)) (numF x4 g.low g.high 96)) (qF x5 g.hours)) (numF x6 0 1000 92)) 0 9 92 F6).mono ?_
  rintro r7 w7 ⟨rfl, f7, k7⟩
  have l7 := k7.blk L6 (fun k => hne k)
  have q7 := blk_cell l7 7 (c7) rfl
  have fr7 := blk_free l7 7
  have F7 := f7.set hA hne 7 (.int .i64 (numR x7))
  have L7 : (w7.setCell ⟨lb, 7, none⟩ (.int .i64 (numR x7))).heap[lb]? = some (.cells #[c0, .int .i64 (numR x1), .int .i64 (numR x2), .bool (decide (x3 = buyB)), .int .i64 (numR x4), .slice qa qn qc, .int .i64 (numR x6), .int .i64 (numR x7)] 73 (0, 0)) := blk_set l7
  have K7 : Kx (fun b => b = fb ∨ b = lb) w (w7.setCell ⟨lb, 7, none⟩ (.int .i64 (numR x7))) := Kx.set (S := fun b => b = fb ∨ b = lb) (g := lb) (K6.trans (k7.mono (fun b hb => Or.inl hb))) (Or.inr rfl) _
  obtain ⟨g1, g2, g3, g4, -, -⟩ := F7.grid
  have I7 : Ints (w7.setCell ⟨lb, 7, none⟩ (.int .i64 (numR x7))) (.slice qa qn qc) (numsL x5) := (Row1.kx I6 k7 (fun b off n c e' k => by have := N5 b off n c e'; omega)).kx (Kx.set (S := fun b => b = lb) (g := lb) (Kx.refl _ w7) rfl _) (fun b off n c e' k => by have := N5 b off n c e'; omega)
  go_wp2
  go_end0
  exact ⟨rfl, ⟨.slice qa qn qc, L7, I7, N5⟩, F7, K7⟩
end Go.Proofs.YthhikmlbpagknaaDoor
