/- The law OrderWithin. -/
import Derived.Test.YthhikmlbpagknaaDoorJPar
import Derived.Test.YthhikmlbpagknaaDoorJHelp
import Derived.Test.YthhikmlbpagknaaDoorJWithM
namespace Go.Proofs.YthhikmlbpagknaaDoor
open Go.RowKit
set_option linter.unusedVariables false
set_option maxRecDepth 100000
set_option linter.unusedSimpArgs false

set_option maxHeartbeats 6400000 in
theorem within_step (who line : ByteArray) (g : Gd) (la : Option Addr) (ln lc : Nat) (w : World) (hm : Mx w) (hh : ¬ (4096 < who.size ∨ 4096 < line.size ∨ 256 < ln)) (hzones : g.zones ≤ 9223372036854775807) (hhours : g.hours ≤ 9223372036854775807) (E : Int) (A : Ak) (hP2 : (par who line g).2 = A) (hE : (par who line g).1 = E) (h0 : E = 0) (hA : WStep who g A) :
    Calls Tryd.prog 6 #[.string who, .string line, .agg #[.int .i64 g.zones, .int .i64 g.hours, .slice la ln lc, .int .i64 g.low, .int .i64 g.high]] w fun r w' => r = .returned (.bool true) ∧ Below w.heap.size w w' := by
  have b1 := (Below.refl w.heap.size w).alloc (Nat.le_refl _) (Obj.cells #[.int .i64 g.zones, .int .i64 g.hours, .slice la ln lc, .int .i64 g.low, .int .i64 g.high] 24)
  have e1 : (w.alloc (Obj.cells #[.int .i64 g.zones, .int .i64 g.hours, .slice la ln lc, .int .i64 g.low, .int .i64 g.high] 24)).heap[w.heap.size]? = some (Obj.cells #[.int .i64 g.zones, .int .i64 g.hours, .slice la ln lc, .int .i64 g.low, .int .i64 g.high] 24 (0, 0)) := heap_alloc_last w _
  have hH := fun v => heavy9_no who line g.zones g.hours g.low g.high la ln lc v (fun k => hh (Or.inl k)) (fun k => hh (Or.inr (Or.inl k))) (fun k => hh (Or.inr (Or.inr k)))
  have hP := fun v hm => parse_any who line g la ln lc v hm (by omega) (by omega) hzones hhours
  have hJ := fun v => jparse_any who line g la ln lc v (by omega) (by omega) hzones hhours
  rw [hE, hP2] at hP hJ
  clear hh hE hP2
  subst h0
  go_enter Tryd.func6, Tryd.ntmps6
  go_wp2_with fail
  generalize w.alloc (Obj.cells #[.int .i64 g.zones, .int .i64 g.hours, .slice la ln lc, .int .i64 g.low, .int .i64 g.high] 24) = W1 at *
  have hm1 := hm.below b1
  refine (hH W1).mono ?_
  rintro r2 W2 ⟨rfl, b2⟩
  have e2 := blk_below e1 b2
  have B2 := chain2 b1 b2
  have hm2 := hm1.below b2
  have y0 := blk_cell e2 0 (.int .i64 g.zones) rfl
  have y1 := blk_cell e2 1 (.int .i64 g.hours) rfl
  have y2 := blk_cell e2 2 (.slice la ln lc) rfl
  have y3 := blk_cell e2 3 (.int .i64 g.low) rfl
  have y4 := blk_cell e2 4 (.int .i64 g.high) rfl
  clear e1 b1 b2 hH hm hm1
  go_wp2_with fail
  refine (hP W2 hm2).mono ?_
  rintro r3 W3 ⟨⟨q3, rfl, i3⟩, b3⟩
  obtain ⟨a3, c3, hq3, hl3, hm3⟩ := i3.slice
  subst hq3
  unfold maxLen at hm3
  have e3 := blk_below e2 b3
  have B3 := chain2 B2 b3
  clear y0 y1 y2 y3 y4 hP hm2
  have b4 : Below W3.heap.size W3 (W3.alloc (Obj.cells (askV A (.slice a3 A.bq.length c3)) 32)) := (Below.refl _ _).alloc (Nat.le_refl _) _
  have x4 : (W3.alloc (Obj.cells (askV A (.slice a3 A.bq.length c3)) 32)).heap[W3.heap.size]? = some (Obj.cells (askV A (.slice a3 A.bq.length c3)) 32 (0, 0)) := heap_alloc_last W3 _
  have e4 := blk_below e3 b4
  have y0 := blk_cell e4 0 (.int .i64 g.zones) rfl
  have y1 := blk_cell e4 1 (.int .i64 g.hours) rfl
  have y2 := blk_cell e4 2 (.slice la ln lc) rfl
  have y3 := blk_cell e4 3 (.int .i64 g.low) rfl
  have y4 := blk_cell e4 4 (.int .i64 g.high) rfl
  go_wp2_with (refine wpList_store_new rfl 32 _ _ rfl _ _ _ rfl (by simp) rfl 18 info_Ask (by rfl) (by rfl) (by simp [askV, Value.oneCell']) ?_)
  generalize hgW : W3.alloc (Obj.cells (askV A (.slice a3 A.bq.length c3)) 32) = W4 at *
  clear hgW
  have i4 := i3.below b4
  have B4 := chain2 B3 b4
  refine (hJ W4).mono ?_
  rintro r5 W5 ⟨⟨q5, rfl, i5⟩, b5⟩
  obtain ⟨a5, c5, hq5, hl5, -⟩ := i5.slice
  subst hq5
  have i5' := i4.below b5
  have x5 := blk_below x4 b5
  have e5 := blk_below e4 b5
  have B5 := chain2 B4 b5
  clear y0 y1 y2 y3 y4 hJ e2 e3 e4 i3 i4 b3 b4 x4 b5 hl5
  have b6 : Below W5.heap.size W5 (W5.alloc (Obj.cells (askV A (.slice a5 A.bq.length c5)) 36)) := (Below.refl _ _).alloc (Nat.le_refl _) _
  have x7 := blk_below x5 b6
  have e7 := blk_below e5 b6
  have i7 := i5'.below b6
  have B6 := chain2 B5 b6
  clear x5 e5 i5 i5'
  have p0 := blk_cell x7 0 (.int .i64 2) (by show some (Value.int .i64 A.kind) = _; rw [hA.kind])
  have p3 := blk_cell x7 3 (.string A.sw) rfl
  have p4 := blk_cell x7 4 (.int .i64 A.s1) rfl
  have p5 := blk_cell x7 5 (.int .i64 A.s2) rfl
  have p6 := blk_cell x7 6 (.int .i64 A.s3) rfl
  have p7 := blk_cell x7 7 (.bool A.sb) rfl
  have p8 := blk_cell x7 8 (.int .i64 A.s5) rfl
  have p9 := blk_cell x7 9 (.int .i64 A.s6) rfl
  obtain ⟨k1, k1'⟩ := hA.c1
  obtain ⟨k2, k2'⟩ := hA.c2
  obtain ⟨k3, k3'⟩ := hA.c3
  obtain ⟨k5, k5'⟩ := hA.c5
  obtain ⟨k6, k6'⟩ := hA.c6
  have d6 : decide (A.s6 ≤ g.high) = true := decide_eq_true k6'
  rw [hA.sw] at p3
  clear hA x7 i7
  generalize A.s1 = n1 at *
  generalize A.s2 = n2 at *
  generalize A.s3 = n3 at *
  generalize A.sb = n4 at *
  generalize A.s5 = n5 at *
  generalize A.s6 = n6 at *
  have b8 := b6.alloc b6.size (Obj.cells #[.string who, .int .i64 n1, .int .i64 n2, .int .i64 n3, .bool n4, .int .i64 n5, .int .i64 n6] 27)
  have e8 := blk_below e7 ((Below.refl _ _).alloc (Nat.le_refl _) (Obj.cells #[.string who, .int .i64 n1, .int .i64 n2, .int .i64 n3, .bool n4, .int .i64 n5, .int .i64 n6] 27))
  have y0 := blk_cell e8 0 (.int .i64 g.zones) rfl
  have y1 := blk_cell e8 1 (.int .i64 g.hours) rfl
  have y3 := blk_cell e8 3 (.int .i64 g.low) rfl
  have y4 := blk_cell e8 4 (.int .i64 g.high) rfl
  clear e7 e8
  go_wp2_with (refine wpList_store_new rfl 36 _ _ rfl _ _ _ rfl (by simp) rfl 18 info_refAsk (by rfl) (by rfl) (by simp [askV, Value.oneCell']) ?_)
  go_ret
  exact ⟨rfl, chain2 B5 b8⟩
end Go.Proofs.YthhikmlbpagknaaDoor
