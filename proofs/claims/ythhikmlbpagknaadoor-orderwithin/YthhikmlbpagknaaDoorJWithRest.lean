/- The law OrderWithin. -/
import Derived.Test.YthhikmlbpagknaaDoorJPar
import Derived.Test.YthhikmlbpagknaaDoorJHelp
import Derived.Test.YthhikmlbpagknaaDoorJWithM
namespace Go.Proofs.YthhikmlbpagknaaDoor
open Go.RowKit
set_option linter.unusedVariables false
set_option maxRecDepth 100000
set_option linter.unusedSimpArgs false

set_option maxHeartbeats 6400000 in
theorem within_bad (who line : ByteArray) (g : Gd) (la : Option Addr) (ln lc : Nat) (w : World) (hm : Mx w) (hh : ¬ (4096 < who.size ∨ 4096 < line.size ∨ 256 < ln)) (hzones : g.zones ≤ 9223372036854775807) (hhours : g.hours ≤ 9223372036854775807) (E : Int) (A : Ak) (hA : (par who line g).2 = A) (hE : (par who line g).1 = E) (h0 : ¬ E = 0) :
    Calls Tryd.prog 6 #[.string who, .string line, .agg #[.int .i64 g.zones, .int .i64 g.hours, .slice la ln lc, .int .i64 g.low, .int .i64 g.high]] w fun r w' => r = .returned (.bool true) ∧ Below w.heap.size w w' := by
  have b1 := (Below.refl w.heap.size w).alloc (Nat.le_refl _) (Obj.cells #[.int .i64 g.zones, .int .i64 g.hours, .slice la ln lc, .int .i64 g.low, .int .i64 g.high] 24)
  have e1 : (w.alloc (Obj.cells #[.int .i64 g.zones, .int .i64 g.hours, .slice la ln lc, .int .i64 g.low, .int .i64 g.high] 24)).heap[w.heap.size]? = some (Obj.cells #[.int .i64 g.zones, .int .i64 g.hours, .slice la ln lc, .int .i64 g.low, .int .i64 g.high] 24 (0, 0)) := heap_alloc_last w _
  have hH := fun v => heavy9_no who line g.zones g.hours g.low g.high la ln lc v (fun k => hh (Or.inl k)) (fun k => hh (Or.inr (Or.inl k))) (fun k => hh (Or.inr (Or.inr k)))
  have hP := fun v hm => parse_any who line g la ln lc v hm (by omega) (by omega) hzones hhours
  have hJ := fun v => jparse_any who line g la ln lc v (by omega) (by omega) hzones hhours
  rw [hE, hA] at hP hJ
  clear hh hA hE
  go_enter Tryd.func6, Tryd.ntmps6
  go_wp2_with fail
  generalize w.alloc (Obj.cells #[.int .i64 g.zones, .int .i64 g.hours, .slice la ln lc, .int .i64 g.low, .int .i64 g.high] 24) = W1 at *
  have hm1 := hm.below b1
  refine (hH W1).mono ?_
  rintro r2 W2 ⟨rfl, b2⟩
  have e2 := blk_below e1 b2
  have B2 := chain2 b1 b2
  have hm2 := hm1.below b2
  have y0 := blk_cell e2 0 (.int .i64 g.zones) rfl
  have y1 := blk_cell e2 1 (.int .i64 g.hours) rfl
  have y2 := blk_cell e2 2 (.slice la ln lc) rfl
  have y3 := blk_cell e2 3 (.int .i64 g.low) rfl
  have y4 := blk_cell e2 4 (.int .i64 g.high) rfl
  clear e1 b1 b2 hH hm hm1
  go_wp2_with fail
  refine (hP W2 hm2).mono ?_
  rintro r3 W3 ⟨⟨q3, rfl, i3⟩, b3⟩
  obtain ⟨a3, c3, hq3, hl3, hm3⟩ := i3.slice
  subst hq3
  unfold maxLen at hm3
  have e3 := blk_below e2 b3
  have B3 := chain2 B2 b3
  clear y0 y1 y2 y3 y4 hP hm2
  have b4 : Below W3.heap.size W3 (W3.alloc (Obj.cells (askV A (.slice a3 A.bq.length c3)) 32)) := (Below.refl _ _).alloc (Nat.le_refl _) _
  have x4 : (W3.alloc (Obj.cells (askV A (.slice a3 A.bq.length c3)) 32)).heap[W3.heap.size]? = some (Obj.cells (askV A (.slice a3 A.bq.length c3)) 32 (0, 0)) := heap_alloc_last W3 _
  have e4 := blk_below e3 b4
  have y0 := blk_cell e4 0 (.int .i64 g.zones) rfl
  have y1 := blk_cell e4 1 (.int .i64 g.hours) rfl
  have y2 := blk_cell e4 2 (.slice la ln lc) rfl
  have y3 := blk_cell e4 3 (.int .i64 g.low) rfl
  have y4 := blk_cell e4 4 (.int .i64 g.high) rfl
  go_wp2_with (refine wpList_store_new rfl 32 _ _ rfl _ _ _ rfl (by simp) rfl 18 info_Ask (by rfl) (by rfl) (by simp [askV, Value.oneCell']) ?_)
  generalize hgW : W3.alloc (Obj.cells (askV A (.slice a3 A.bq.length c3)) 32) = W4 at *
  clear hgW
  have i4 := i3.below b4
  have B4 := chain2 B3 b4
  refine (hJ W4).mono ?_
  rintro r5 W5 ⟨⟨q5, rfl, i5⟩, b5⟩
  obtain ⟨a5, c5, hq5, hl5, -⟩ := i5.slice
  subst hq5
  have i5' := i4.below b5
  have x5 := blk_below x4 b5
  have e5 := blk_below e4 b5
  have B5 := chain2 B4 b5
  clear y0 y1 y2 y3 y4 hJ e2 e3 e4 i3 i4 b3 b4 x4 b5 hl5
  have b6 : Below W5.heap.size W5 (W5.alloc (Obj.cells (askV A (.slice a5 A.bq.length c5)) 36)) := (Below.refl _ _).alloc (Nat.le_refl _) _
  have x7 := blk_below x5 b6
  have e7 := blk_below e5 b6
  have i7 := i5'.below b6
  have B6 := chain2 B5 b6
  clear x5 e5 i5 i5'
  have h0' : (E != 0) = true := by simp [h0]
  clear x7 e7 i7
  go_wp2_with (refine wpList_store_new rfl 36 _ _ rfl _ _ _ rfl (by simp) rfl 18 info_refAsk (by rfl) (by rfl) (by simp [askV, Value.oneCell']) ?_)
  go_ret
  exact ⟨rfl, B6⟩
set_option maxHeartbeats 6400000 in
theorem within_lock (who line : ByteArray) (g : Gd) (la : Option Addr) (ln lc : Nat) (w : World) (hm : Mx w) (hh : ¬ (4096 < who.size ∨ 4096 < line.size ∨ 256 < ln)) (hzones : g.zones ≤ 9223372036854775807) (hhours : g.hours ≤ 9223372036854775807) (E : Int) (A : Ak) (hP2 : (par who line g).2 = A) (hE : (par who line g).1 = E) (h0 : E = 0) (hA : WLock A) :
    Calls Tryd.prog 6 #[.string who, .string line, .agg #[.int .i64 g.zones, .int .i64 g.hours, .slice la ln lc, .int .i64 g.low, .int .i64 g.high]] w fun r w' => r = .returned (.bool true) ∧ Below w.heap.size w w' := by
  have b1 := (Below.refl w.heap.size w).alloc (Nat.le_refl _) (Obj.cells #[.int .i64 g.zones, .int .i64 g.hours, .slice la ln lc, .int .i64 g.low, .int .i64 g.high] 24)
  have e1 : (w.alloc (Obj.cells #[.int .i64 g.zones, .int .i64 g.hours, .slice la ln lc, .int .i64 g.low, .int .i64 g.high] 24)).heap[w.heap.size]? = some (Obj.cells #[.int .i64 g.zones, .int .i64 g.hours, .slice la ln lc, .int .i64 g.low, .int .i64 g.high] 24 (0, 0)) := heap_alloc_last w _
  have hH := fun v => heavy9_no who line g.zones g.hours g.low g.high la ln lc v (fun k => hh (Or.inl k)) (fun k => hh (Or.inr (Or.inl k))) (fun k => hh (Or.inr (Or.inr k)))
  have hP := fun v hm => parse_any who line g la ln lc v hm (by omega) (by omega) hzones hhours
  have hJ := fun v => jparse_any who line g la ln lc v (by omega) (by omega) hzones hhours
  rw [hE, hP2] at hP hJ
  clear hh hE hP2
  subst h0
  go_enter Tryd.func6, Tryd.ntmps6
  go_wp2_with fail
  generalize w.alloc (Obj.cells #[.int .i64 g.zones, .int .i64 g.hours, .slice la ln lc, .int .i64 g.low, .int .i64 g.high] 24) = W1 at *
  have hm1 := hm.below b1
  refine (hH W1).mono ?_
  rintro r2 W2 ⟨rfl, b2⟩
  have e2 := blk_below e1 b2
  have B2 := chain2 b1 b2
  have hm2 := hm1.below b2
  have y0 := blk_cell e2 0 (.int .i64 g.zones) rfl
  have y1 := blk_cell e2 1 (.int .i64 g.hours) rfl
  have y2 := blk_cell e2 2 (.slice la ln lc) rfl
  have y3 := blk_cell e2 3 (.int .i64 g.low) rfl
  have y4 := blk_cell e2 4 (.int .i64 g.high) rfl
  clear e1 b1 b2 hH hm hm1
  go_wp2_with fail
  refine (hP W2 hm2).mono ?_
  rintro r3 W3 ⟨⟨q3, rfl, i3⟩, b3⟩
  obtain ⟨a3, c3, hq3, hl3, hm3⟩ := i3.slice
  subst hq3
  unfold maxLen at hm3
  have e3 := blk_below e2 b3
  have B3 := chain2 B2 b3
  clear y0 y1 y2 y3 y4 hP hm2
  have b4 : Below W3.heap.size W3 (W3.alloc (Obj.cells (askV A (.slice a3 A.bq.length c3)) 32)) := (Below.refl _ _).alloc (Nat.le_refl _) _
  have x4 : (W3.alloc (Obj.cells (askV A (.slice a3 A.bq.length c3)) 32)).heap[W3.heap.size]? = some (Obj.cells (askV A (.slice a3 A.bq.length c3)) 32 (0, 0)) := heap_alloc_last W3 _
  have e4 := blk_below e3 b4
  have y0 := blk_cell e4 0 (.int .i64 g.zones) rfl
  have y1 := blk_cell e4 1 (.int .i64 g.hours) rfl
  have y2 := blk_cell e4 2 (.slice la ln lc) rfl
  have y3 := blk_cell e4 3 (.int .i64 g.low) rfl
  have y4 := blk_cell e4 4 (.int .i64 g.high) rfl
  go_wp2_with (refine wpList_store_new rfl 32 _ _ rfl _ _ _ rfl (by simp) rfl 18 info_Ask (by rfl) (by rfl) (by simp [askV, Value.oneCell']) ?_)
  generalize hgW : W3.alloc (Obj.cells (askV A (.slice a3 A.bq.length c3)) 32) = W4 at *
  clear hgW
  have i4 := i3.below b4
  have B4 := chain2 B3 b4
  refine (hJ W4).mono ?_
  rintro r5 W5 ⟨⟨q5, rfl, i5⟩, b5⟩
  obtain ⟨a5, c5, hq5, hl5, -⟩ := i5.slice
  subst hq5
  have i5' := i4.below b5
  have x5 := blk_below x4 b5
  have e5 := blk_below e4 b5
  have B5 := chain2 B4 b5
  clear y0 y1 y2 y3 y4 hJ e2 e3 e4 i3 i4 b3 b4 x4 b5 hl5
  have b6 : Below W5.heap.size W5 (W5.alloc (Obj.cells (askV A (.slice a5 A.bq.length c5)) 36)) := (Below.refl _ _).alloc (Nat.le_refl _) _
  have x7 := blk_below x5 b6
  have e7 := blk_below e5 b6
  have i7 := i5'.below b6
  have B6 := chain2 B5 b6
  clear x5 e5 i5 i5'
  have p0 := blk_cell x7 0 (.int .i64 1) (by show some (Value.int .i64 A.kind) = _; rw [hA.kind])
  have p1 := blk_cell x7 1 (.int .i64 A.cents) rfl
  have c1 := hA.c1
  have c2 := hA.c2
  have c2' : decide (A.cents ≤ 1000000000) = true := decide_eq_true c2
  clear hA x7 e7 i7
  generalize A.cents = n at *
  go_wp2_with (refine wpList_store_new rfl 36 _ _ rfl _ _ _ rfl (by simp) rfl 18 info_refAsk (by rfl) (by rfl) (by simp [askV, Value.oneCell']) ?_)
  go_ret
  exact ⟨rfl, B6⟩
set_option maxHeartbeats 6400000 in
theorem within_cancel (who line : ByteArray) (g : Gd) (la : Option Addr) (ln lc : Nat) (w : World) (hm : Mx w) (hh : ¬ (4096 < who.size ∨ 4096 < line.size ∨ 256 < ln)) (hzones : g.zones ≤ 9223372036854775807) (hhours : g.hours ≤ 9223372036854775807) (E : Int) (A : Ak) (hP2 : (par who line g).2 = A) (hE : (par who line g).1 = E) (h0 : E = 0) (hA : WCancel A) :
    Calls Tryd.prog 6 #[.string who, .string line, .agg #[.int .i64 g.zones, .int .i64 g.hours, .slice la ln lc, .int .i64 g.low, .int .i64 g.high]] w fun r w' => r = .returned (.bool true) ∧ Below w.heap.size w w' := by
  have b1 := (Below.refl w.heap.size w).alloc (Nat.le_refl _) (Obj.cells #[.int .i64 g.zones, .int .i64 g.hours, .slice la ln lc, .int .i64 g.low, .int .i64 g.high] 24)
  have e1 : (w.alloc (Obj.cells #[.int .i64 g.zones, .int .i64 g.hours, .slice la ln lc, .int .i64 g.low, .int .i64 g.high] 24)).heap[w.heap.size]? = some (Obj.cells #[.int .i64 g.zones, .int .i64 g.hours, .slice la ln lc, .int .i64 g.low, .int .i64 g.high] 24 (0, 0)) := heap_alloc_last w _
  have hH := fun v => heavy9_no who line g.zones g.hours g.low g.high la ln lc v (fun k => hh (Or.inl k)) (fun k => hh (Or.inr (Or.inl k))) (fun k => hh (Or.inr (Or.inr k)))
  have hP := fun v hm => parse_any who line g la ln lc v hm (by omega) (by omega) hzones hhours
  have hJ := fun v => jparse_any who line g la ln lc v (by omega) (by omega) hzones hhours
  rw [hE, hP2] at hP hJ
  clear hh hE hP2
  subst h0
  go_enter Tryd.func6, Tryd.ntmps6
  go_wp2_with fail
  generalize w.alloc (Obj.cells #[.int .i64 g.zones, .int .i64 g.hours, .slice la ln lc, .int .i64 g.low, .int .i64 g.high] 24) = W1 at *
  have hm1 := hm.below b1
  refine (hH W1).mono ?_
  rintro r2 W2 ⟨rfl, b2⟩
  have e2 := blk_below e1 b2
  have B2 := chain2 b1 b2
  have hm2 := hm1.below b2
  have y0 := blk_cell e2 0 (.int .i64 g.zones) rfl
  have y1 := blk_cell e2 1 (.int .i64 g.hours) rfl
  have y2 := blk_cell e2 2 (.slice la ln lc) rfl
  have y3 := blk_cell e2 3 (.int .i64 g.low) rfl
  have y4 := blk_cell e2 4 (.int .i64 g.high) rfl
  clear e1 b1 b2 hH hm hm1
  go_wp2_with fail
  refine (hP W2 hm2).mono ?_
  rintro r3 W3 ⟨⟨q3, rfl, i3⟩, b3⟩
  obtain ⟨a3, c3, hq3, hl3, hm3⟩ := i3.slice
  subst hq3
  unfold maxLen at hm3
  have e3 := blk_below e2 b3
  have B3 := chain2 B2 b3
  clear y0 y1 y2 y3 y4 hP hm2
  have b4 : Below W3.heap.size W3 (W3.alloc (Obj.cells (askV A (.slice a3 A.bq.length c3)) 32)) := (Below.refl _ _).alloc (Nat.le_refl _) _
  have x4 : (W3.alloc (Obj.cells (askV A (.slice a3 A.bq.length c3)) 32)).heap[W3.heap.size]? = some (Obj.cells (askV A (.slice a3 A.bq.length c3)) 32 (0, 0)) := heap_alloc_last W3 _
  have e4 := blk_below e3 b4
  have y0 := blk_cell e4 0 (.int .i64 g.zones) rfl
  have y1 := blk_cell e4 1 (.int .i64 g.hours) rfl
  have y2 := blk_cell e4 2 (.slice la ln lc) rfl
  have y3 := blk_cell e4 3 (.int .i64 g.low) rfl
  have y4 := blk_cell e4 4 (.int .i64 g.high) rfl
  go_wp2_with (refine wpList_store_new rfl 32 _ _ rfl _ _ _ rfl (by simp) rfl 18 info_Ask (by rfl) (by rfl) (by simp [askV, Value.oneCell']) ?_)
  generalize hgW : W3.alloc (Obj.cells (askV A (.slice a3 A.bq.length c3)) 32) = W4 at *
  clear hgW
  have i4 := i3.below b4
  have B4 := chain2 B3 b4
  refine (hJ W4).mono ?_
  rintro r5 W5 ⟨⟨q5, rfl, i5⟩, b5⟩
  obtain ⟨a5, c5, hq5, hl5, -⟩ := i5.slice
  subst hq5
  have i5' := i4.below b5
  have x5 := blk_below x4 b5
  have e5 := blk_below e4 b5
  have B5 := chain2 B4 b5
  clear y0 y1 y2 y3 y4 hJ e2 e3 e4 i3 i4 b3 b4 x4 b5 hl5
  have b6 : Below W5.heap.size W5 (W5.alloc (Obj.cells (askV A (.slice a5 A.bq.length c5)) 36)) := (Below.refl _ _).alloc (Nat.le_refl _) _
  have x7 := blk_below x5 b6
  have e7 := blk_below e5 b6
  have i7 := i5'.below b6
  have B6 := chain2 B5 b6
  clear x5 e5 i5 i5'
  have p0 := blk_cell x7 0 (.int .i64 4) (by show some (Value.int .i64 A.kind) = _; rw [hA.kind])
  have p2 := blk_cell x7 2 (.int .i64 A.seq) rfl
  have c1 := hA.c1
  have c2 := hA.c2
  have c2' : decide (A.seq ≤ 1000) = true := decide_eq_true c2
  clear hA x7 e7 i7
  generalize A.seq = n at *
  go_wp2_with (refine wpList_store_new rfl 36 _ _ rfl _ _ _ rfl (by simp) rfl 18 info_refAsk (by rfl) (by rfl) (by simp [askV, Value.oneCell']) ?_)
  go_ret
  exact ⟨rfl, B6⟩
set_option maxHeartbeats 6400000 in
theorem within_block (who line : ByteArray) (g : Gd) (la : Option Addr) (ln lc : Nat) (w : World) (hm : Mx w) (hh : ¬ (4096 < who.size ∨ 4096 < line.size ∨ 256 < ln)) (hzones : g.zones ≤ 9223372036854775807) (hhours : g.hours ≤ 9223372036854775807) (E : Int) (A : Ak) (hP2 : (par who line g).2 = A) (hE : (par who line g).1 = E) (h0 : E = 0) (hA : WBlock who g A) :
    Calls Tryd.prog 6 #[.string who, .string line, .agg #[.int .i64 g.zones, .int .i64 g.hours, .slice la ln lc, .int .i64 g.low, .int .i64 g.high]] w fun r w' => r = .returned (.bool true) ∧ Below w.heap.size w w' := by
  have b1 := (Below.refl w.heap.size w).alloc (Nat.le_refl _) (Obj.cells #[.int .i64 g.zones, .int .i64 g.hours, .slice la ln lc, .int .i64 g.low, .int .i64 g.high] 24)
  have e1 : (w.alloc (Obj.cells #[.int .i64 g.zones, .int .i64 g.hours, .slice la ln lc, .int .i64 g.low, .int .i64 g.high] 24)).heap[w.heap.size]? = some (Obj.cells #[.int .i64 g.zones, .int .i64 g.hours, .slice la ln lc, .int .i64 g.low, .int .i64 g.high] 24 (0, 0)) := heap_alloc_last w _
  have hH := fun v => heavy9_no who line g.zones g.hours g.low g.high la ln lc v (fun k => hh (Or.inl k)) (fun k => hh (Or.inr (Or.inl k))) (fun k => hh (Or.inr (Or.inr k)))
  have hP := fun v hm => parse_any who line g la ln lc v hm (by omega) (by omega) hzones hhours
  have hJ := fun v => jparse_any who line g la ln lc v (by omega) (by omega) hzones hhours
  rw [hE, hP2] at hP hJ
  clear hh hE hP2
  subst h0
  go_enter Tryd.func6, Tryd.ntmps6
  go_wp2_with fail
  generalize w.alloc (Obj.cells #[.int .i64 g.zones, .int .i64 g.hours, .slice la ln lc, .int .i64 g.low, .int .i64 g.high] 24) = W1 at *
  have hm1 := hm.below b1
  refine (hH W1).mono ?_
  rintro r2 W2 ⟨rfl, b2⟩
  have e2 := blk_below e1 b2
  have B2 := chain2 b1 b2
  have hm2 := hm1.below b2
  have y0 := blk_cell e2 0 (.int .i64 g.zones) rfl
  have y1 := blk_cell e2 1 (.int .i64 g.hours) rfl
  have y2 := blk_cell e2 2 (.slice la ln lc) rfl
  have y3 := blk_cell e2 3 (.int .i64 g.low) rfl
  have y4 := blk_cell e2 4 (.int .i64 g.high) rfl
  clear e1 b1 b2 hH hm hm1
  go_wp2_with fail
  refine (hP W2 hm2).mono ?_
  rintro r3 W3 ⟨⟨q3, rfl, i3⟩, b3⟩
  obtain ⟨a3, c3, hq3, hl3, hm3⟩ := i3.slice
  subst hq3
  unfold maxLen at hm3
  have e3 := blk_below e2 b3
  have B3 := chain2 B2 b3
  clear y0 y1 y2 y3 y4 hP hm2
  have b4 : Below W3.heap.size W3 (W3.alloc (Obj.cells (askV A (.slice a3 A.bq.length c3)) 32)) := (Below.refl _ _).alloc (Nat.le_refl _) _
  have x4 : (W3.alloc (Obj.cells (askV A (.slice a3 A.bq.length c3)) 32)).heap[W3.heap.size]? = some (Obj.cells (askV A (.slice a3 A.bq.length c3)) 32 (0, 0)) := heap_alloc_last W3 _
  have e4 := blk_below e3 b4
  have y0 := blk_cell e4 0 (.int .i64 g.zones) rfl
  have y1 := blk_cell e4 1 (.int .i64 g.hours) rfl
  have y2 := blk_cell e4 2 (.slice la ln lc) rfl
  have y3 := blk_cell e4 3 (.int .i64 g.low) rfl
  have y4 := blk_cell e4 4 (.int .i64 g.high) rfl
  go_wp2_with (refine wpList_store_new rfl 32 _ _ rfl _ _ _ rfl (by simp) rfl 18 info_Ask (by rfl) (by rfl) (by simp [askV, Value.oneCell']) ?_)
  generalize hgW : W3.alloc (Obj.cells (askV A (.slice a3 A.bq.length c3)) 32) = W4 at *
  clear hgW
  have i4 := i3.below b4
  have B4 := chain2 B3 b4
  refine (hJ W4).mono ?_
  rintro r5 W5 ⟨⟨q5, rfl, i5⟩, b5⟩
  obtain ⟨a5, c5, hq5, hl5, -⟩ := i5.slice
  subst hq5
  have i5' := i4.below b5
  have x5 := blk_below x4 b5
  have e5 := blk_below e4 b5
  have B5 := chain2 B4 b5
  clear y0 y1 y2 y3 y4 hJ e2 e3 e4 i3 i4 b3 b4 x4 b5 hl5
  have b6 : Below W5.heap.size W5 (W5.alloc (Obj.cells (askV A (.slice a5 A.bq.length c5)) 36)) := (Below.refl _ _).alloc (Nat.le_refl _) _
  have x7 := blk_below x5 b6
  have e7 := blk_below e5 b6
  have i7 := i5'.below b6
  have B6 := chain2 B5 b6
  clear x5 e5 i5 i5'
  have p0 := blk_cell x7 0 (.int .i64 3) (by show some (Value.int .i64 A.kind) = _; rw [hA.kind])
  have p10 := blk_cell x7 10 (.string A.bw) rfl
  have p11 := blk_cell x7 11 (.int .i64 A.b1) rfl
  have p12 := blk_cell x7 12 (.int .i64 A.b2) rfl
  have p13 := blk_cell x7 13 (.bool A.bb) rfl
  have p14 := blk_cell x7 14 (.int .i64 A.b4) rfl
  have p15 := blk_cell x7 15 (.slice a3 A.bq.length c3) rfl
  have p16 := blk_cell x7 16 (.int .i64 A.b6) rfl
  have p17 := blk_cell x7 17 (.int .i64 A.b7) rfl
  obtain ⟨k2, k2'⟩ := hA.c2
  obtain ⟨k4, k4'⟩ := hA.c4
  have k6 := hA.c6
  have k7 := hA.c7
  have d7 : decide (0 ≤ A.b7) = true := decide_eq_true k7
  have HE := hid hA.each
  have HS := hid (sum_all hA.each hA.one)
  have hfew := hA.few
  have hlen := hA.len
  rw [hA.bw] at p10
  clear hA x7
  generalize A.b1 = n1 at *
  generalize A.b2 = n2 at *
  generalize A.bb = n3 at *
  generalize A.b4 = n4 at *
  generalize A.b6 = n6 at *
  generalize A.b7 = n7 at *
  have b8 := b6.alloc b6.size (Obj.cells #[.string who, .int .i64 n1, .int .i64 n2, .bool n3, .int .i64 n4, .slice a3 A.bq.length c3, .int .i64 n6, .int .i64 n7] 30)
  have b9 : Below (W5.alloc (Obj.cells (askV A (.slice a5 A.bq.length c5)) 36)).heap.size _ ((W5.alloc (Obj.cells (askV A (.slice a5 A.bq.length c5)) 36)).alloc (Obj.cells #[.string who, .int .i64 n1, .int .i64 n2, .bool n3, .int .i64 n4, .slice a3 A.bq.length c3, .int .i64 n6, .int .i64 n7] 30)) := (Below.refl _ _).alloc (Nat.le_refl _) _
  have e8 := blk_below e7 b9
  have i8 := i7.below b9
  have x8 : ((W5.alloc (Obj.cells (askV A (.slice a5 A.bq.length c5)) 36)).alloc (Obj.cells #[.string who, .int .i64 n1, .int .i64 n2, .bool n3, .int .i64 n4, .slice a3 A.bq.length c3, .int .i64 n6, .int .i64 n7] 30)).heap[W5.heap.size + 1]? = some (Obj.cells #[.string who, .int .i64 n1, .int .i64 n2, .bool n3, .int .i64 n4, .slice a3 A.bq.length c3, .int .i64 n6, .int .i64 n7] 30 (0, 0)) := heap_alloc2_new _ _ _
  clear i7 e7 b9
  go_wp2_with (refine wpList_store_new rfl 36 _ _ rfl _ _ _ rfl (by simp) rfl 18 info_refAsk (by rfl) (by rfl) (by simp [askV, Value.oneCell']) ?_)
  generalize (W5.alloc (Obj.cells (askV A (.slice a5 A.bq.length c5)) 36)).alloc (Obj.cells #[.string who, .int .i64 n1, .int .i64 n2, .bool n3, .int .i64 n4, .slice a3 A.bq.length c3, .int .i64 n6, .int .i64 n7] 30) = W8 at *
  have B8 := chain2 B5 b8
  have y0 := blk_cell e8 0 (.int .i64 g.zones) rfl
  have y1 := blk_cell e8 1 (.int .i64 g.hours) rfl
  have y3 := blk_cell e8 3 (.int .i64 g.low) rfl
  have y4 := blk_cell e8 4 (.int .i64 g.high) rfl
  have z0 := blk_cell x8 0 (.string who) rfl
  have z2 := blk_cell x8 2 (.int .i64 n2) rfl
  have z4 := blk_cell x8 4 (.int .i64 n4) rfl
  have z5 := blk_cell x8 5 (.slice a3 A.bq.length c3) rfl
  have z6 := blk_cell x8 6 (.int .i64 n6) rfl
  have z7 := blk_cell x8 7 (.int .i64 n7) rfl
  clear e8 x8 b8 b6 B6 p0 p10 p11 p12 p13 p14 p15 p16 p17
  generalize W5.heap.size + 1 = nb at *
  obtain ⟨L, HL⟩ : ∃ L, Hid (L = A.bq) := ⟨_, rfl⟩
  rw [← HL.out] at i8 z5 hl3 hfew hlen HE HS
  go_loopw [13, 14] (fun s i wr => ∃ k : Nat, k ≤ L.length ∧ s = .int .i64 (sumTo L k) ∧ i = .int .i64 (k : Int) ∧ wr = W8) (fun _ i _ => L.length - (intOf i).toNat)
  case atStart => exact ⟨0, Nat.zero_le _, rfl, rfl, rfl⟩
  case round =>
    obtain ⟨k, hk, rfl, rfl, rfl⟩ := hrel
    by_cases hlt : k < L.length
    · obtain ⟨p1, o1, d1, e1, l1, m1, f1⟩ := i8.at k hlt
      simp only [Value.slice.injEq] at e1
      obtain ⟨rfl, _, rfl⟩ := e1
      obtain ⟨hq1, hq2⟩ := HE.out L[k] (List.getElem_mem hlt)
      obtain ⟨hs1, hs2⟩ := sumTo_le HE.out k hk
      have HN := hid (show sumTo L (k + 1) = sumTo L k + L[k] by simp only [sumTo]; rw [List.getD_eq_getElem?_getD, List.getElem?_eq_getElem hlt]; rfl)
      have HI := hid i8
      clear i8
      generalize L[k] = x at *
      generalize sumTo L k = S at *
      have hw : wrap64 (S + x) = S + x := wrap_in _ (by omega) (by omega)
      go_wp2
      go_roundw
      case rel => exact ⟨k + 1, by omega, by rw [HN.out], by go_num, by simp⟩
      case measure => simp [intOf]; omega
    · obtain rfl : k = L.length := by omega
      have hS := HS.out
      have hl' : ((L.length : Int) == g.hours) = true := by simp [hlen]
      clear HS HE i8
      generalize sumTo L L.length = S at *
      go_wp2
      go_ret
      exact ⟨rfl, B8⟩
end Go.Proofs.YthhikmlbpagknaaDoor
