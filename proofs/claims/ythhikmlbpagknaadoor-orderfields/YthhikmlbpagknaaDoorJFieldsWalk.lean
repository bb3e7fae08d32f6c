/- The law OrderFields. -/
import Derived.Test.YthhikmlbpagknaaDoorJPar
import Derived.Test.YthhikmlbpagknaaDoorJHelp
import Derived.Test.YthhikmlbpagknaaDoorJFieldsM
import Derived.Deep.RegionHeld3
namespace Go.Proofs.YthhikmlbpagknaaDoor
open Go.RowKit
set_option linter.unusedVariables false
set_option maxRecDepth 100000
set_option linter.unusedSimpArgs false

theorem parse_is (who line : ByteArray) (g : Gd) (la : Option Addr) (ln lc : Nat) (w : World) (hm : Mx w) (hwho : who.size ≤ 1000000000) (hline : line.size ≤ 1000000000) (hzones : g.zones ≤ 9223372036854775807) (hhours : g.hours ≤ 9223372036854775807) (n : Int) (h : par who line g = (n, ak0)) :
    Calls Tryd.prog 8 #[.string who, .string line, .agg #[.int .i64 g.zones, .int .i64 g.hours, .slice la ln lc, .int .i64 g.low, .int .i64 g.high]] w fun r w' => (∃ qa qc, r = .returned (.tuple #[.agg #[.int .i64 0, .int .i64 0, .int .i64 0, .string ⟨#[]⟩, .int .i64 0, .int .i64 0, .int .i64 0, .bool false, .int .i64 0, .int .i64 0, .string ⟨#[]⟩, .int .i64 0, .int .i64 0, .bool false, .int .i64 0, .slice qa 0 qc, .int .i64 0, .int .i64 0], .int .i64 n])) ∧ Below w.heap.size w w' := by
  refine (parse_any who line g la ln lc w hm hwho hline hzones hhours).mono ?_
  rintro r w' ⟨⟨q, rfl, iq⟩, b⟩
  rw [h] at iq ⊢
  obtain ⟨qa, qc, hq, _, _⟩ := iq.slice
  subst hq
  exact ⟨⟨qa, qc, rfl⟩, b⟩
theorem pred_cast (n : Nat) (h : 0 < n) : ((n - 1 : Nat) : Int) = (n : Int) - 1 := by omega
theorem rowOf_new (w : World) : rowOf (w.alloc (Obj.cells #[.int .i64 0, .int .i64 0, .int .i64 0, .string ⟨#[]⟩, .int .i64 0, .int .i64 0, .int .i64 0, .bool false, .int .i64 0, .int .i64 0, .string ⟨#[]⟩, .int .i64 0, .int .i64 0, .bool false, .int .i64 0, .slice none 0 0, .int .i64 0, .int .i64 0] 32)) w.heap.size 18 = true := rowOf_is (n := 18) (heap_alloc_last w _) rfl
theorem cut_bl {line : ByteArray} {k : Nat} (hk : k < line.size) (hb : bt line k = 32) (hn : ∀ j, k < j → j < line.size → ¬ bt line j = 32) : bl line = bl (line.extract 0 k) ++ 32 :: (bl line).drop (k + 1) ∧ (32 : UInt8) ∉ (bl line).drop (k + 1) := by
  have e1 : bl (line.extract 0 k) = (bl line).take k := by simp [bl]
  have e2 := bl_drop line k hk
  have e3 : line[k]'hk = 32 := by
    have := bt_at line k hk
    rw [hb] at this
    exact UInt8.toNat_inj.1 this
  refine ⟨?_, fun hm => ?_⟩
  · rw [e1, ← e3, ← e2, List.take_append_drop]
  · obtain ⟨i, hi, e⟩ := List.getElem_of_mem hm
    rw [List.length_drop, bl_len] at hi
    rw [List.getElem_drop] at e
    have h1 : k + 1 + i < line.size := by omega
    apply hn (k + 1 + i) (by omega) h1
    rw [← bt_at line (k + 1 + i) h1, ← bl_at line (k + 1 + i) h1, e]; rfl
set_option maxHeartbeats 12800000 in
theorem fields_long (who line : ByteArray) (g : Gd) (la : Option Addr) (ln lc : Nat) (w : World) (hm : Mx w) (hh : ¬ (4096 < who.size ∨ 4096 < line.size ∨ 256 < ln)) (hzones : g.zones ≤ 9223372036854775807) (hhours : g.hours ≤ 9223372036854775807) (hl : 192 < line.size) :
    Calls Tryd.prog 3 #[.string who, .string line, .agg #[.int .i64 g.zones, .int .i64 g.hours, .slice la ln lc, .int .i64 g.low, .int .i64 g.high]] w fun r w' => r = .returned (.bool true) ∧ Below w.heap.size w w' := by
  have b1 := (Below.refl w.heap.size w).alloc (Nat.le_refl _) (Obj.cells #[.int .i64 g.zones, .int .i64 g.hours, .slice la ln lc, .int .i64 g.low, .int .i64 g.high] 24)
  have e1 : (w.alloc (Obj.cells #[.int .i64 g.zones, .int .i64 g.hours, .slice la ln lc, .int .i64 g.low, .int .i64 g.high] 24)).heap[w.heap.size]? = some (Obj.cells #[.int .i64 g.zones, .int .i64 g.hours, .slice la ln lc, .int .i64 g.low, .int .i64 g.high] 24 (0, 0)) := heap_alloc_last w _
  have hH := fun v => heavy9_no who line g.zones g.hours g.low g.high la ln lc v (fun k => hh (Or.inl k)) (fun k => hh (Or.inr (Or.inl k))) (fun k => hh (Or.inr (Or.inr k)))
  have hl' : decide ((192 : Int) < (line.size : Int)) = true := decide_eq_true (by omega)
  clear hh
  go_enter Tryd.func3, Tryd.ntmps3
  go_wp2_with fail
  generalize w.alloc (Obj.cells #[.int .i64 g.zones, .int .i64 g.hours, .slice la ln lc, .int .i64 g.low, .int .i64 g.high] 24) = W1 at *
  have hm1 := hm.below b1
  refine (hH W1).mono ?_
  rintro r2 W2 ⟨rfl, b2⟩
  have e2 := blk_below e1 b2
  have B2 := chain2 b1 b2
  have hm2 := hm1.below b2
  have y0 := blk_cell e2 0 (.int .i64 g.zones) rfl
  have y1 := blk_cell e2 1 (.int .i64 g.hours) rfl
  have y2 := blk_cell e2 2 (.slice la ln lc) rfl
  have y3 := blk_cell e2 3 (.int .i64 g.low) rfl
  have y4 := blk_cell e2 4 (.int .i64 g.high) rfl
  clear e1 b1 b2 hH hm hm1
  clear y0 y1 y2 y3 y4 e2
  go_wp2
  go_ret
  exact ⟨rfl, B2⟩
set_option maxHeartbeats 12800000 in
theorem fields_bad (who line : ByteArray) (g : Gd) (la : Option Addr) (ln lc : Nat) (w : World) (hm : Mx w) (hh : ¬ (4096 < who.size ∨ 4096 < line.size ∨ 256 < ln)) (hzones : g.zones ≤ 9223372036854775807) (hhours : g.hours ≤ 9223372036854775807) (hl : ¬ 192 < line.size) (E : Int) (A : Ak) (hA : (par who line g).2 = A) (hE : (par who line g).1 = E) (h0 : ¬ E = 0) :
    Calls Tryd.prog 3 #[.string who, .string line, .agg #[.int .i64 g.zones, .int .i64 g.hours, .slice la ln lc, .int .i64 g.low, .int .i64 g.high]] w fun r w' => r = .returned (.bool true) ∧ Below w.heap.size w w' := by
  have b1 := (Below.refl w.heap.size w).alloc (Nat.le_refl _) (Obj.cells #[.int .i64 g.zones, .int .i64 g.hours, .slice la ln lc, .int .i64 g.low, .int .i64 g.high] 24)
  have e1 : (w.alloc (Obj.cells #[.int .i64 g.zones, .int .i64 g.hours, .slice la ln lc, .int .i64 g.low, .int .i64 g.high] 24)).heap[w.heap.size]? = some (Obj.cells #[.int .i64 g.zones, .int .i64 g.hours, .slice la ln lc, .int .i64 g.low, .int .i64 g.high] 24 (0, 0)) := heap_alloc_last w _
  have hH := fun v => heavy9_no who line g.zones g.hours g.low g.high la ln lc v (fun k => hh (Or.inl k)) (fun k => hh (Or.inr (Or.inl k))) (fun k => hh (Or.inr (Or.inr k)))
  have hP := fun v hm => parse_any who line g la ln lc v hm (by omega) (by omega) hzones hhours
  have hJ := fun v => jparse_any who line g la ln lc v (by omega) (by omega) hzones hhours
  have hl' : decide ((192 : Int) < (line.size : Int)) = false := decide_eq_false (by omega)
  rw [hE, hA] at hP hJ
  have h0' : (E != 0) = true := by simp [h0]
  clear hh hA hE hl
  go_enter Tryd.func3, Tryd.ntmps3
  go_wp2_with fail
  generalize w.alloc (Obj.cells #[.int .i64 g.zones, .int .i64 g.hours, .slice la ln lc, .int .i64 g.low, .int .i64 g.high] 24) = W1 at *
  have hm1 := hm.below b1
  refine (hH W1).mono ?_
  rintro r2 W2 ⟨rfl, b2⟩
  have e2 := blk_below e1 b2
  have B2 := chain2 b1 b2
  have hm2 := hm1.below b2
  have y0 := blk_cell e2 0 (.int .i64 g.zones) rfl
  have y1 := blk_cell e2 1 (.int .i64 g.hours) rfl
  have y2 := blk_cell e2 2 (.slice la ln lc) rfl
  have y3 := blk_cell e2 3 (.int .i64 g.low) rfl
  have y4 := blk_cell e2 4 (.int .i64 g.high) rfl
  clear e1 b1 b2 hH hm hm1
  go_wp2_with fail
  refine (hP W2 hm2).mono ?_
  rintro r3 W3 ⟨⟨q3, rfl, i3⟩, b3⟩
  obtain ⟨a3, c3, hq3, -, -⟩ := i3.slice
  subst hq3
  have e3 := blk_below e2 b3
  have B3 := chain2 B2 b3
  have hm3 := hm2.below b3
  clear y0 y1 y2 y3 y4 hP hm2 i3
  have b4 : Below W3.heap.size W3 (W3.alloc (Obj.cells (askV A (.slice a3 A.bq.length c3)) 32)) := (Below.refl _ _).alloc (Nat.le_refl _) _
  have e4 := blk_below e3 b4
  have y0 := blk_cell e4 0 (.int .i64 g.zones) rfl
  have y1 := blk_cell e4 1 (.int .i64 g.hours) rfl
  have y2 := blk_cell e4 2 (.slice la ln lc) rfl
  have y3 := blk_cell e4 3 (.int .i64 g.low) rfl
  have y4 := blk_cell e4 4 (.int .i64 g.high) rfl
  go_wp2_with (refine wpList_store_new rfl 32 _ _ rfl _ _ _ rfl (by simp) rfl 18 info_Ask (by rfl) (by rfl) (by simp [askV, Value.oneCell']) ?_)
  generalize hgW : W3.alloc (Obj.cells (askV A (.slice a3 A.bq.length c3)) 32) = W4 at *
  clear hgW
  have B4 := chain2 B3 b4
  have hm4 := hm3.below b4
  refine (hJ W4).mono ?_
  rintro r5 W5 ⟨⟨q5, rfl, i5⟩, b5⟩
  obtain ⟨a5, c5, hq5, -, -⟩ := i5.slice
  subst hq5
  have e5 := blk_below e4 b5
  have B5 := chain2 B4 b5
  have hm5 := hm4.below b5
  clear y0 y1 y2 y3 y4 hJ e2 e3 e4 b3 b4 b5 i5 hm3 hm4
  have b6 : Below W5.heap.size W5 (W5.alloc (Obj.cells (askV A (.slice a5 A.bq.length c5)) 36)) := (Below.refl _ _).alloc (Nat.le_refl _) _
  have e6 := blk_below e5 b6
  have B6 := chain2 B5 b6
  have hm6 := hm5.below b6
  clear e5 e6 hm5 hm6
  go_wp2_with (refine wpList_store_new rfl 36 _ _ rfl _ _ _ rfl (by simp) rfl 18 info_refAsk (by rfl) (by rfl) (by simp [askV, Value.oneCell']) ?_)
  go_ret
  exact ⟨rfl, B6⟩
set_option maxHeartbeats 12800000 in
theorem fields_ok (who line : ByteArray) (g : Gd) (la : Option Addr) (ln lc : Nat) (w : World) (hm : Mx w) (hh : ¬ (4096 < who.size ∨ 4096 < line.size ∨ 256 < ln)) (hzones : g.zones ≤ 9223372036854775807) (hhours : g.hours ≤ 9223372036854775807) (hl : ¬ 192 < line.size) (E : Int) (A : Ak) (hA : (par who line g).2 = A) (hE : (par who line g).1 = E) (h0 : E = 0) :
    Calls Tryd.prog 3 #[.string who, .string line, .agg #[.int .i64 g.zones, .int .i64 g.hours, .slice la ln lc, .int .i64 g.low, .int .i64 g.high]] w fun r w' => r = .returned (.bool true) ∧ Below w.heap.size w w' := by
  have b1 := (Below.refl w.heap.size w).alloc (Nat.le_refl _) (Obj.cells #[.int .i64 g.zones, .int .i64 g.hours, .slice la ln lc, .int .i64 g.low, .int .i64 g.high] 24)
  have e1 : (w.alloc (Obj.cells #[.int .i64 g.zones, .int .i64 g.hours, .slice la ln lc, .int .i64 g.low, .int .i64 g.high] 24)).heap[w.heap.size]? = some (Obj.cells #[.int .i64 g.zones, .int .i64 g.hours, .slice la ln lc, .int .i64 g.low, .int .i64 g.high] 24 (0, 0)) := heap_alloc_last w _
  have hH := fun v => heavy9_no who line g.zones g.hours g.low g.high la ln lc v (fun k => hh (Or.inl k)) (fun k => hh (Or.inr (Or.inl k))) (fun k => hh (Or.inr (Or.inr k)))
  have hP := fun v hm => parse_any who line g la ln lc v hm (by omega) (by omega) hzones hhours
  have hJ := fun v => jparse_any who line g la ln lc v (by omega) (by omega) hzones hhours
  have hl' : decide ((192 : Int) < (line.size : Int)) = false := decide_eq_false (by omega)
  rw [hE, hA] at hP hJ
  subst h0
  obtain ⟨v, xs, hw0, hwL, hsh⟩ := par_shape who line g hE
  have hxs : xs.length ≤ 7 ∧ 1 ≤ xs.length := by rcases hsh with ⟨_, h⟩ | ⟨_, h⟩ | ⟨_, h⟩ | ⟨_, h⟩ <;> omega
  have hsz1 : line.size ≤ 192 := by omega
  obtain ⟨m1, m2⟩ := words_more hw0 hsz1 (by rw [hwL, List.length_cons]; omega)
  rw [hwL, List.cons_append] at m2
  have q1 := par_other who (line ++ ⟨#[32, 49]⟩) g hsh m1 m2 (by rw [List.length_append]; simp)
  obtain ⟨x1, x2⟩ := words_x hw0 hsz1 hwL
  have q2 := par_x who (⟨#[120]⟩ ++ line) g x1 x2
  obtain ⟨p, hp1, hp2, hp3⟩ : ∃ p, 1 ≤ p ∧ p < line.size ∧ bt line p = 32 := by
    match xs, hxs, hwL with
    | x :: R, _, hwL => exact blank_in hw0 hwL
  have q3 : ∀ k, k < line.size → bt line k = 32 → (∀ j, k < j → j < line.size → ¬ bt line j = 32) → par who (line.extract 0 k) g = (91, ak0) := by
    intro k hk hb hn
    obtain ⟨c1, c2⟩ := cut_bl hk hb hn
    obtain ⟨c3, c4⟩ := words_cut hw0 c1 c2
    have hne := wordsL_ne c3
    match hq : wordsL (line.extract 0 k), hne with
    | u :: ys, _ =>
      rw [hq, hwL, List.cons_append, List.cons.injEq] at c4
      obtain ⟨rfl, c5⟩ := c4
      have := congrArg List.length c5
      rw [List.length_append] at this
      simp at this
      exact par_other who _ g hsh c3 hq (by omega)
  have hs1 : (line ++ ⟨#[32, 49]⟩ : ByteArray).size ≤ 1000000000 := by rw [ByteArray.size_append]; show line.size + 2 ≤ _; omega
  have hs2 : (⟨#[120]⟩ ++ line : ByteArray).size ≤ 1000000000 := by rw [ByteArray.size_append]; show 1 + line.size ≤ _; omega
  have hP1 := fun v hm => parse_is who (line ++ ⟨#[32, 49]⟩) g la ln lc v hm (by omega) hs1 hzones hhours _ q1
  have hP2 := fun v hm => parse_is who (⟨#[120]⟩ ++ line) g la ln lc v hm (by omega) hs2 hzones hhours _ q2
  have HP3 := hid (fun k hk hb hn v hm => parse_is who (line.extract 0 k) g la ln lc v hm (by omega) (by rw [ByteArray.size_extract]; omega) hzones hhours _ (q3 k hk hb hn))
  clear hh hA hE q1 q2 q3 hs1 hs2 m1 m2 x1 x2 hw0 hwL hsh hxs
  go_enter Tryd.func3, Tryd.ntmps3
  go_wp2_with fail
  generalize w.alloc (Obj.cells #[.int .i64 g.zones, .int .i64 g.hours, .slice la ln lc, .int .i64 g.low, .int .i64 g.high] 24) = W1 at *
  have hm1 := hm.below b1
  refine (hH W1).mono ?_
  rintro r2 W2 ⟨rfl, b2⟩
  have e2 := blk_below e1 b2
  have B2 := chain2 b1 b2
  have hm2 := hm1.below b2
  have y0 := blk_cell e2 0 (.int .i64 g.zones) rfl
  have y1 := blk_cell e2 1 (.int .i64 g.hours) rfl
  have y2 := blk_cell e2 2 (.slice la ln lc) rfl
  have y3 := blk_cell e2 3 (.int .i64 g.low) rfl
  have y4 := blk_cell e2 4 (.int .i64 g.high) rfl
  clear e1 b1 b2 hH hm hm1
  go_wp2_with fail
  refine (hP W2 hm2).mono ?_
  rintro r3 W3 ⟨⟨q3, rfl, i3⟩, b3⟩
  obtain ⟨a3, c3, hq3, -, -⟩ := i3.slice
  subst hq3
  have e3 := blk_below e2 b3
  have B3 := chain2 B2 b3
  have hm3 := hm2.below b3
  clear y0 y1 y2 y3 y4 hP hm2 i3
  have b4 : Below W3.heap.size W3 (W3.alloc (Obj.cells (askV A (.slice a3 A.bq.length c3)) 32)) := (Below.refl _ _).alloc (Nat.le_refl _) _
  have e4 := blk_below e3 b4
  have y0 := blk_cell e4 0 (.int .i64 g.zones) rfl
  have y1 := blk_cell e4 1 (.int .i64 g.hours) rfl
  have y2 := blk_cell e4 2 (.slice la ln lc) rfl
  have y3 := blk_cell e4 3 (.int .i64 g.low) rfl
  have y4 := blk_cell e4 4 (.int .i64 g.high) rfl
  go_wp2_with (refine wpList_store_new rfl 32 _ _ rfl _ _ _ rfl (by simp) rfl 18 info_Ask (by rfl) (by rfl) (by simp [askV, Value.oneCell']) ?_)
  generalize hgW : W3.alloc (Obj.cells (askV A (.slice a3 A.bq.length c3)) 32) = W4 at *
  clear hgW
  have B4 := chain2 B3 b4
  have hm4 := hm3.below b4
  refine (hJ W4).mono ?_
  rintro r5 W5 ⟨⟨q5, rfl, i5⟩, b5⟩
  obtain ⟨a5, c5, hq5, -, -⟩ := i5.slice
  subst hq5
  have e5 := blk_below e4 b5
  have B5 := chain2 B4 b5
  have hm5 := hm4.below b5
  clear y0 y1 y2 y3 y4 hJ e2 e3 e4 b3 b4 b5 i5 hm3 hm4
  have b6 : Below W5.heap.size W5 (W5.alloc (Obj.cells (askV A (.slice a5 A.bq.length c5)) 36)) := (Below.refl _ _).alloc (Nat.le_refl _) _
  have e6 := blk_below e5 b6
  have B6 := chain2 B5 b6
  have hm6 := hm5.below b6
  clear e5 hm5 b6
  have y0 := blk_cell e6 0 (.int .i64 g.zones) rfl
  have y1 := blk_cell e6 1 (.int .i64 g.hours) rfl
  have y2 := blk_cell e6 2 (.slice la ln lc) rfl
  have y3 := blk_cell e6 3 (.int .i64 g.low) rfl
  have y4 := blk_cell e6 4 (.int .i64 g.high) rfl
  have hcat : (Value.string line, Value.string line) = (Value.string line, Value.string line) := rfl
  clear hcat
  go_wp2_with (refine wpList_store_new rfl 36 _ _ rfl _ _ _ rfl (by simp) rfl 18 info_refAsk (by rfl) (by rfl) (by simp [askV, Value.oneCell']) ?_)
  generalize hgW6 : W5.alloc (Obj.cells (askV A (.slice a5 A.bq.length c5)) 36) = W6 at *
  clear hgW6
  refine (hP1 W6 hm6).mono ?_
  rintro r7 W7 ⟨⟨qa7, qc7, rfl⟩, b7⟩
  have e7 := blk_below e6 b7
  have B7 := chain2 B6 b7
  have hm7 := hm6.below b7
  clear y0 y1 y2 y3 y4 e6 hm6 b7
  have b8 : Below W7.heap.size W7 (W7.alloc (Obj.cells #[.int .i64 0, .int .i64 0, .int .i64 0, .string ⟨#[]⟩, .int .i64 0, .int .i64 0, .int .i64 0, .bool false, .int .i64 0, .int .i64 0, .string ⟨#[]⟩, .int .i64 0, .int .i64 0, .bool false, .int .i64 0, .slice qa7 0 qc7, .int .i64 0, .int .i64 0] 32)) := (Below.refl _ _).alloc (Nat.le_refl _) _
  have e8 := blk_below e7 b8
  have B8 := chain2 B7 b8
  have hm8 := hm7.below b8
  have y0 := blk_cell e8 0 (.int .i64 g.zones) rfl
  have y1 := blk_cell e8 1 (.int .i64 g.hours) rfl
  have y2 := blk_cell e8 2 (.slice la ln lc) rfl
  have y3 := blk_cell e8 3 (.int .i64 g.low) rfl
  have y4 := blk_cell e8 4 (.int .i64 g.high) rfl
  go_wp2_with (refine wpList_store_new rfl 32 _ _ rfl _ _ _ rfl (by simp) rfl 18 info_Ask (by rfl) (by rfl) (by simp [askV, Value.oneCell']) ?_)
  generalize hgW7 : W7.alloc (Obj.cells #[.int .i64 0, .int .i64 0, .int .i64 0, .string ⟨#[]⟩, .int .i64 0, .int .i64 0, .int .i64 0, .bool false, .int .i64 0, .int .i64 0, .string ⟨#[]⟩, .int .i64 0, .int .i64 0, .bool false, .int .i64 0, .slice qa7 0 qc7, .int .i64 0, .int .i64 0] 32) = W8 at *
  clear hgW7 e7 hm7 b8
  refine (hP2 W8 hm8).mono ?_
  rintro r9 W9 ⟨⟨qa9, qc9, rfl⟩, b9⟩
  have e9 := blk_below e8 b9
  have B9 := chain2 B8 b9
  have hm9 := hm8.below b9
  clear y0 y1 y2 y3 y4 e8 hm8 b9
  have b10 : Below W9.heap.size W9 (W9.alloc (Obj.cells #[.int .i64 0, .int .i64 0, .int .i64 0, .string ⟨#[]⟩, .int .i64 0, .int .i64 0, .int .i64 0, .bool false, .int .i64 0, .int .i64 0, .string ⟨#[]⟩, .int .i64 0, .int .i64 0, .bool false, .int .i64 0, .slice qa9 0 qc9, .int .i64 0, .int .i64 0] 32)) := (Below.refl _ _).alloc (Nat.le_refl _) _
  have e10 := blk_below e9 b10
  have B10 := chain2 B9 b10
  have hm10 := hm9.below b10
  have y0 := blk_cell e10 0 (.int .i64 g.zones) rfl
  have y1 := blk_cell e10 1 (.int .i64 g.hours) rfl
  have y2 := blk_cell e10 2 (.slice la ln lc) rfl
  have y3 := blk_cell e10 3 (.int .i64 g.low) rfl
  have y4 := blk_cell e10 4 (.int .i64 g.high) rfl
  go_wp2_with (refine wpList_store_new rfl 32 _ _ rfl _ _ _ rfl (by simp) rfl 18 info_Ask (by rfl) (by rfl) (by simp [askV, Value.oneCell']) ?_)
  generalize hgW9 : W9.alloc (Obj.cells #[.int .i64 0, .int .i64 0, .int .i64 0, .string ⟨#[]⟩, .int .i64 0, .int .i64 0, .int .i64 0, .bool false, .int .i64 0, .int .i64 0, .string ⟨#[]⟩, .int .i64 0, .int .i64 0, .bool false, .int .i64 0, .slice qa9 0 qc9, .int .i64 0, .int .i64 0] 32) = W10 at *
  clear hgW9 e9 hm9 b10
  clear y0 y1 y2 y3 y4
  obtain ⟨y0, y1, y2, y3, y4⟩ : (W10.cell? ⟨w.heap.size, 0, none⟩ = some (.int .i64 g.zones)) ∧ (W10.cell? ⟨w.heap.size, 1, none⟩ = some (.int .i64 g.hours)) ∧ (W10.cell? ⟨w.heap.size, 2, none⟩ = some (.slice la ln lc)) ∧ (W10.cell? ⟨w.heap.size, 3, none⟩ = some (.int .i64 g.low)) ∧ (W10.cell? ⟨w.heap.size, 4, none⟩ = some (.int .i64 g.high)) := ⟨blk_cell e10 0 _ rfl, blk_cell e10 1 _ rfl, blk_cell e10 2 _ rfl, blk_cell e10 3 _ rfl, blk_cell e10 4 _ rfl⟩
  have bd : Below W10.heap.size W10 W10.drew := ⟨rfl, rfl, rfl, Nat.le_refl _, fun _ _ => rfl⟩
  have HG : ∀ X, Below W10.heap.size W10 X → X.cell? ⟨w.heap.size, 0, none⟩ = some (.int .i64 g.zones) ∧ X.cell? ⟨w.heap.size, 1, none⟩ = some (.int .i64 g.hours) ∧ X.cell? ⟨w.heap.size, 2, none⟩ = some (.slice la ln lc) ∧ X.cell? ⟨w.heap.size, 3, none⟩ = some (.int .i64 g.low) ∧ X.cell? ⟨w.heap.size, 4, none⟩ = some (.int .i64 g.high) := fun X hX => ⟨(hX.cell (World.block_lt_of_cell? _ _ y0)).trans y0, (hX.cell (World.block_lt_of_cell? _ _ y1)).trans y1, (hX.cell (World.block_lt_of_cell? _ _ y2)).trans y2, (hX.cell (World.block_lt_of_cell? _ _ y3)).trans y3, (hX.cell (World.block_lt_of_cell? _ _ y4)).trans y4⟩
  clear y0 y1 y2 y3 y4 e10 hl hl'
  go_loopw [15] (fun i wr => ∃ k : Nat, p ≤ k ∧ k < line.size ∧ i = .int .i64 (k : Int) ∧ Hid (∀ j, k < j → j < line.size → ¬ bt line j = 32) ∧ wr = W10) (fun i _ => (intOf i).toNat)
  case atStart => exact ⟨line.size - 1, by omega, by omega, by rw [pred_cast _ (by omega)], (by show ∀ j, line.size - 1 < j → j < line.size → ¬ bt line j = 32; intro j h1 h2; omega), rfl⟩
  case round =>
    obtain ⟨k, hk1, hk2, rfl, HN, hwr⟩ := hrel
    rw [hwr]
    clear hwr
    have ek := bt_at line k hk2
    have hk0 : (0 : Int) < (k : Int) := by omega
    by_cases hb : bt line k = 32
    · have hP4 := HP3.out k hk2 hb HN.out
      have hb1 : ((bt line k : Int) != 32) = false := by rw [hb]; rfl
      have hb2 : (bt line k : Int) = 32 := by rw [hb]; rfl
      have hk3 : (k : Int) ≤ (line.size : Int) := by omega
      have hk4 : (0 : Int) ≤ (k : Int) := by omega
      clear HN HP3 hb
      have hRN := rowOf_new
      have bA : Below W10.heap.size W10 (W10.alloc (Obj.cells #[.int .i64 0, .int .i64 0, .int .i64 0, .string ⟨#[]⟩, .int .i64 0, .int .i64 0, .int .i64 0, .bool false, .int .i64 0, .int .i64 0, .string ⟨#[]⟩, .int .i64 0, .int .i64 0, .bool false, .int .i64 0, .slice none 0 0, .int .i64 0, .int .i64 0] 32)).drew := ((Below.refl _ _).alloc (Nat.le_refl _) _).drew
      have R0 : rowOf (W10.alloc (Obj.cells #[.int .i64 0, .int .i64 0, .int .i64 0, .string ⟨#[]⟩, .int .i64 0, .int .i64 0, .int .i64 0, .bool false, .int .i64 0, .int .i64 0, .string ⟨#[]⟩, .int .i64 0, .int .i64 0, .bool false, .int .i64 0, .slice none 0 0, .int .i64 0, .int .i64 0] 32)).drew W10.heap.size 18 = true := rowOf_new W10
      go_wp2_with fail
      go_region_held3 (fun X => X.cell? ⟨w.heap.size, 0, none⟩ = some (.int .i64 g.zones) ∧ X.cell? ⟨w.heap.size, 1, none⟩ = some (.int .i64 g.hours) ∧ X.cell? ⟨w.heap.size, 2, none⟩ = some (.slice la ln lc) ∧ X.cell? ⟨w.heap.size, 3, none⟩ = some (.int .i64 g.low) ∧ X.cell? ⟨w.heap.size, 4, none⟩ = some (.int .i64 g.high)) (first | with_reducible exact HG _ bd | with_reducible exact HG _ bA | with_reducible exact HG _ B1 | with_reducible exact HG _ (B1.alloc B1.size _) | with_reducible exact HG _ (below_row B1 (Nat.le_refl _) _) | with_reducible exact HG _ (below_row (B1.alloc B1.size _) B1.size _)) (first
        | (go_at_call 8; refine (hP4 _ (by first | exact hm10.below bd | exact hm10.below bA)).mono ?_; rintro rr Wc ⟨⟨qa, qc, rfl⟩, bc⟩; first | (have B1 : Below W10.heap.size W10 Wc := chain2 bd bc) | (have B1 : Below W10.heap.size W10 Wc := chain2 bA bc; have R1 : rowOf Wc W10.heap.size 18 = true := rowOf_below R0 bc)))
      all_goals go_wp2
      all_goals go_ret
      all_goals first | exact ⟨rfl, chain2 B10 (below_row B1 (Nat.le_refl _) _)⟩ | exact ⟨rfl, chain2 B10 (below_row (B1.alloc B1.size _) B1.size _)⟩
    · have hb1 : ((bt line k : Int) != 32) = true := by simp; omega
      have hb2 : ¬ (bt line k : Int) = 32 := by omega
      have hpk : ¬ p = k := fun e => hb (by rw [← e]; exact hp3)
      have HN2 := hid (show ∀ j, k - 1 < j → j < line.size → ¬ bt line j = 32 from fun j h1 h2 => by
        by_cases e : j = k
        · rw [e]; exact hb
        · exact HN.out j (by omega) h2)
      clear HN hb
      go_wp2
      go_roundw
      case rel => exact ⟨k - 1, by omega, by omega, by rw [pred_cast _ (by omega)], HN2, by simp⟩
      case measure => simp [intOf]; omega
set_option maxHeartbeats 6400000 in
theorem orderFields_any (who line : ByteArray) (g : Gd) (la : Option Addr) (ln lc : Nat) (w : World) (hm : Mx w) (hw : who.size ≤ 9223372036854775807) (hl : line.size ≤ 9223372036854775807) (hn : ln ≤ 9223372036854775807) (hzones : g.zones ≤ 9223372036854775807) (hhours : g.hours ≤ 9223372036854775807) :
    Calls Tryd.prog 3 #[.string who, .string line, .agg #[.int .i64 g.zones, .int .i64 g.hours, .slice la ln lc, .int .i64 g.low, .int .i64 g.high]] w fun r w' => r = .returned (.bool true) ∧ Below w.heap.size w w' := by
  have b1 := (Below.refl w.heap.size w).alloc (Nat.le_refl _) (Obj.cells #[.int .i64 g.zones, .int .i64 g.hours, .slice la ln lc, .int .i64 g.low, .int .i64 g.high] 24)
  have e1 : (w.alloc (Obj.cells #[.int .i64 g.zones, .int .i64 g.hours, .slice la ln lc, .int .i64 g.low, .int .i64 g.high] 24)).heap[w.heap.size]? = some (Obj.cells #[.int .i64 g.zones, .int .i64 g.hours, .slice la ln lc, .int .i64 g.low, .int .i64 g.high] 24 (0, 0)) := heap_alloc_last w _
  by_cases hh : 4096 < who.size ∨ 4096 < line.size ∨ 256 < ln
  · have hH := fun v => heavy9_yes who line g.zones g.hours g.low g.high la ln lc v hw hl hn hh
    clear hh hw hl hn
    go_enter Tryd.func3, Tryd.ntmps3
    go_wp2_with fail
    refine (hH _).mono ?_
    rintro r2 W2 ⟨rfl, b2⟩
    go_wp2
    go_ret
    exact ⟨rfl, chain2 b1 b2⟩
  by_cases hl2 : 192 < line.size
  · exact fields_long who line g la ln lc w hm hh hzones hhours hl2
  by_cases h0 : (par who line g).1 = 0
  · exact fields_ok who line g la ln lc w hm hh hzones hhours hl2 _ _ rfl rfl h0
  · exact fields_bad who line g la ln lc w hm hh hzones hhours hl2 _ _ rfl rfl h0
end Go.Proofs.YthhikmlbpagknaaDoor
