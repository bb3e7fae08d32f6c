/- The document's order: Parse, a Step. -/
import Derived.Test.YthhikmlbpagknaaDoorJParse1
namespace Go.Proofs.YthhikmlbpagknaaDoor
open Go.RowKit
set_option linter.unusedVariables false
set_option maxRecDepth 100000
set_option linter.unusedSimpArgs false

set_option maxHeartbeats 6400000 in
theorem jparse_badstep (who line : ByteArray) (g : Gd) (la : Option Addr) (ln lc : Nat) (w : World) (hwho : who.size ≤ 1000000000) (hline : line.size ≤ 1000000000) (hE : wordsE line = 0) (x1 x2 x3 x4 x5 x6 : ByteArray) (hL : wordsL line = stepB :: [x1, x2, x3, x4, x5, x6]) (he : ¬ stepE g x1 x2 x3 x4 x5 x6 = 0) (hzones : g.zones ≤ 9223372036854775807) (hhours : g.hours ≤ 9223372036854775807) :
    Calls Tryd.prog 9 #[.string who, .string line, .agg #[.int .i64 g.zones, .int .i64 g.hours, .slice la ln lc, .int .i64 g.low, .int .i64 g.high]] w fun r w' => (∃ q, r = .returned (.tuple #[.agg (askV (ak0) q), .int .i64 (stepE g x1 x2 x3 x4 x5 x6)]) ∧ Ints w' q (ak0).bq) ∧ Below w.heap.size w w' := by
  have b1 := alloc2_below w (Obj.cells #[.int .i64 g.zones, .int .i64 g.hours, .slice la ln lc, .int .i64 g.low, .int .i64 g.high] 24) (Obj.cells #[.int .i64 0, .int .i64 0, .int .i64 0, .string ⟨#[]⟩, .int .i64 0, .int .i64 0, .int .i64 0, .bool false, .int .i64 0, .int .i64 0, .string ⟨#[]⟩, .int .i64 0, .int .i64 0, .bool false, .int .i64 0, .slice none 0 0, .int .i64 0, .int .i64 0] 36)
  have eg : ((w.alloc (Obj.cells #[.int .i64 g.zones, .int .i64 g.hours, .slice la ln lc, .int .i64 g.low, .int .i64 g.high] 24)).alloc (Obj.cells #[.int .i64 0, .int .i64 0, .int .i64 0, .string ⟨#[]⟩, .int .i64 0, .int .i64 0, .int .i64 0, .bool false, .int .i64 0, .int .i64 0, .string ⟨#[]⟩, .int .i64 0, .int .i64 0, .bool false, .int .i64 0, .slice none 0 0, .int .i64 0, .int .i64 0] 36)).heap[w.heap.size]? = some (Obj.cells #[.int .i64 g.zones, .int .i64 g.hours, .slice la ln lc, .int .i64 g.low, .int .i64 g.high] 24 (0, 0)) := blk_below (heap_alloc_last w _) ((Below.refl _ _).alloc (Nat.le_refl _) _)
  have er : ((w.alloc (Obj.cells #[.int .i64 g.zones, .int .i64 g.hours, .slice la ln lc, .int .i64 g.low, .int .i64 g.high] 24)).alloc (Obj.cells #[.int .i64 0, .int .i64 0, .int .i64 0, .string ⟨#[]⟩, .int .i64 0, .int .i64 0, .int .i64 0, .bool false, .int .i64 0, .int .i64 0, .string ⟨#[]⟩, .int .i64 0, .int .i64 0, .bool false, .int .i64 0, .slice none 0 0, .int .i64 0, .int .i64 0] 36)).heap[w.heap.size + 1]? = some (Obj.cells #[.int .i64 0, .int .i64 0, .int .i64 0, .string ⟨#[]⟩, .int .i64 0, .int .i64 0, .int .i64 0, .bool false, .int .i64 0, .int .i64 0, .string ⟨#[]⟩, .int .i64 0, .int .i64 0, .bool false, .int .i64 0, .slice none 0 0, .int .i64 0, .int .i64 0] 36 (0, 0)) := heap_alloc2_new _ _ _
  go_enter Tryd.func9, Tryd.ntmps9
  go_wp2_with fail
  generalize (w.alloc (Obj.cells #[.int .i64 g.zones, .int .i64 g.hours, .slice la ln lc, .int .i64 g.low, .int .i64 g.high] 24)).alloc (Obj.cells #[.int .i64 0, .int .i64 0, .int .i64 0, .string ⟨#[]⟩, .int .i64 0, .int .i64 0, .int .i64 0, .bool false, .int .i64 0, .int .i64 0, .string ⟨#[]⟩, .int .i64 0, .int .i64 0, .bool false, .int .i64 0, .slice none 0 0, .int .i64 0, .int .i64 0] 36) = W1 at *
  refine (zwords_any line W1 (by omega)).mono ?_
  rintro r2 W2 ⟨⟨v, rfl, hv⟩, b2⟩
  have er2 := blk_below er b2
  have eg2 := blk_below eg b2
  have B2 := chain2 b1 b2
  have hz2 := B2.size
  have hr2 := lt_of_block er2
  clear b1 b2 eg er
  rw [hE] at ⊢
  rw [hL] at hv
  obtain ⟨b, off, c, hv', hlc, hcm, hc, hx⟩ := hv.at 0 (by simp)
  simp only [Nat.add_zero, List.getElem_cons_zero] at hc hx
  subst hv'
  unfold maxLen at hcm
  rw [show stepB = ⟨#[115, 116, 101, 112]⟩ from rfl] at hc
  have hsz : ∀ y ∈ [x1, x2, x3, x4, x5, x6], y.size ≤ 200 := fun y hy => words_small hE (by rw [hL]; simp at hy ⊢; right; exact hy)
  have hS := jstep_any who g la ln lc W2 (.slice (some ⟨b, off, none⟩) 7 c) stepB x1 x2 x3 x4 x5 x6 (by simpa using hv) hsz hzones hhours
  simp only [List.length_cons, List.length_nil, Nat.zero_add, Nat.reduceAdd] at hlc ⊢
  have y0 := blk_cell eg2 0 (.int .i64 g.zones) rfl
  have y1 := blk_cell eg2 1 (.int .i64 g.hours) rfl
  have y2 := blk_cell eg2 2 (.slice la ln lc) rfl
  have y3 := blk_cell eg2 3 (.int .i64 g.low) rfl
  have y4 := blk_cell eg2 4 (.int .i64 g.high) rfl
  clear hv hsz hx eg2
  obtain ⟨EE, HE⟩ : ∃ EE, Hid (stepE g x1 x2 x3 x4 x5 x6 = EE) := ⟨_, rfl⟩
  rw [HE.out] at he
  rw [stepP_bad HE.out he] at hS
  dsimp only [askV, ak0, List.length_nil] at hS
  go_wp2_with fail
  refine hS.mono ?_
  rintro r3 W3 ⟨⟨q, rfl, iq, nq⟩, b3⟩
  obtain ⟨qa, qc, hq, -, -⟩ := iq.slice
  subst hq
  simp only [List.length_nil]
  have er3 := blk_below er2 b3
  have B3 := chain2 B2 b3
  have hr := rowOf_is (n := 18) er3 rfl
  have e4 := setRow_heap _ _ _ #[.int .i64 0, .int .i64 0, .int .i64 0, .string ⟨#[]⟩, .int .i64 0, .int .i64 0, .int .i64 0, .bool false, .int .i64 0, .int .i64 0, .string ⟨#[]⟩, .int .i64 0, .int .i64 0, .bool false, .int .i64 0, .slice qa 0 qc, .int .i64 0, .int .i64 0] _ _ er3
  have b4 := below_rowJ (g := w.heap.size + 1) B3 (by omega) #[.int .i64 0, .int .i64 0, .int .i64 0, .string ⟨#[]⟩, .int .i64 0, .int .i64 0, .int .i64 0, .bool false, .int .i64 0, .int .i64 0, .string ⟨#[]⟩, .int .i64 0, .int .i64 0, .bool false, .int .i64 0, .slice qa 0 qc, .int .i64 0, .int .i64 0]
  have iq4 : Ints (W3.setRow (w.heap.size + 1) #[.int .i64 0, .int .i64 0, .int .i64 0, .string ⟨#[]⟩, .int .i64 0, .int .i64 0, .int .i64 0, .bool false, .int .i64 0, .int .i64 0, .string ⟨#[]⟩, .int .i64 0, .int .i64 0, .bool false, .int .i64 0, .slice qa 0 qc, .int .i64 0, .int .i64 0]) (.slice qa 0 qc) [] := by
    obtain ⟨a', c', h1, h2, h3, _⟩ := iq
    exact ⟨a', c', h1, h2, h3, Or.inl rfl⟩
  clear er2 er3
  go_wp2
  exact bodyPost_ret (results_cell_tmp Tryd.results9 _ _ (w.heap.size + 1) _ _ _ _ (by rfl) e4 Tryd.underlying36 (by rfl) info_refAsk) rfl ⟨⟨.slice qa 0 qc, by rw [HE.out]; rfl, iq4⟩, b4⟩
set_option maxHeartbeats 6400000 in
theorem jparse_okstep (who line : ByteArray) (g : Gd) (la : Option Addr) (ln lc : Nat) (w : World) (hwho : who.size ≤ 1000000000) (hline : line.size ≤ 1000000000) (hE : wordsE line = 0) (x1 x2 x3 x4 x5 x6 : ByteArray) (hL : wordsL line = stepB :: [x1, x2, x3, x4, x5, x6]) (he : stepE g x1 x2 x3 x4 x5 x6 = 0) (hzones : g.zones ≤ 9223372036854775807) (hhours : g.hours ≤ 9223372036854775807) :
    Calls Tryd.prog 9 #[.string who, .string line, .agg #[.int .i64 g.zones, .int .i64 g.hours, .slice la ln lc, .int .i64 g.low, .int .i64 g.high]] w fun r w' => (∃ q, r = .returned (.tuple #[.agg (askV (stepA who x1 x2 x3 x4 x5 x6) q), .int .i64 (0)]) ∧ Ints w' q (stepA who x1 x2 x3 x4 x5 x6).bq) ∧ Below w.heap.size w w' := by
  have b1 := alloc2_below w (Obj.cells #[.int .i64 g.zones, .int .i64 g.hours, .slice la ln lc, .int .i64 g.low, .int .i64 g.high] 24) (Obj.cells #[.int .i64 0, .int .i64 0, .int .i64 0, .string ⟨#[]⟩, .int .i64 0, .int .i64 0, .int .i64 0, .bool false, .int .i64 0, .int .i64 0, .string ⟨#[]⟩, .int .i64 0, .int .i64 0, .bool false, .int .i64 0, .slice none 0 0, .int .i64 0, .int .i64 0] 36)
  have eg : ((w.alloc (Obj.cells #[.int .i64 g.zones, .int .i64 g.hours, .slice la ln lc, .int .i64 g.low, .int .i64 g.high] 24)).alloc (Obj.cells #[.int .i64 0, .int .i64 0, .int .i64 0, .string ⟨#[]⟩, .int .i64 0, .int .i64 0, .int .i64 0, .bool false, .int .i64 0, .int .i64 0, .string ⟨#[]⟩, .int .i64 0, .int .i64 0, .bool false, .int .i64 0, .slice none 0 0, .int .i64 0, .int .i64 0] 36)).heap[w.heap.size]? = some (Obj.cells #[.int .i64 g.zones, .int .i64 g.hours, .slice la ln lc, .int .i64 g.low, .int .i64 g.high] 24 (0, 0)) := blk_below (heap_alloc_last w _) ((Below.refl _ _).alloc (Nat.le_refl _) _)
  have er : ((w.alloc (Obj.cells #[.int .i64 g.zones, .int .i64 g.hours, .slice la ln lc, .int .i64 g.low, .int .i64 g.high] 24)).alloc (Obj.cells #[.int .i64 0, .int .i64 0, .int .i64 0, .string ⟨#[]⟩, .int .i64 0, .int .i64 0, .int .i64 0, .bool false, .int .i64 0, .int .i64 0, .string ⟨#[]⟩, .int .i64 0, .int .i64 0, .bool false, .int .i64 0, .slice none 0 0, .int .i64 0, .int .i64 0] 36)).heap[w.heap.size + 1]? = some (Obj.cells #[.int .i64 0, .int .i64 0, .int .i64 0, .string ⟨#[]⟩, .int .i64 0, .int .i64 0, .int .i64 0, .bool false, .int .i64 0, .int .i64 0, .string ⟨#[]⟩, .int .i64 0, .int .i64 0, .bool false, .int .i64 0, .slice none 0 0, .int .i64 0, .int .i64 0] 36 (0, 0)) := heap_alloc2_new _ _ _
  go_enter Tryd.func9, Tryd.ntmps9
  go_wp2_with fail
  generalize (w.alloc (Obj.cells #[.int .i64 g.zones, .int .i64 g.hours, .slice la ln lc, .int .i64 g.low, .int .i64 g.high] 24)).alloc (Obj.cells #[.int .i64 0, .int .i64 0, .int .i64 0, .string ⟨#[]⟩, .int .i64 0, .int .i64 0, .int .i64 0, .bool false, .int .i64 0, .int .i64 0, .string ⟨#[]⟩, .int .i64 0, .int .i64 0, .bool false, .int .i64 0, .slice none 0 0, .int .i64 0, .int .i64 0] 36) = W1 at *
  refine (zwords_any line W1 (by omega)).mono ?_
  rintro r2 W2 ⟨⟨v, rfl, hv⟩, b2⟩
  have er2 := blk_below er b2
  have eg2 := blk_below eg b2
  have B2 := chain2 b1 b2
  have hz2 := B2.size
  have hr2 := lt_of_block er2
  clear b1 b2 eg er
  rw [hE] at ⊢
  rw [hL] at hv
  obtain ⟨b, off, c, hv', hlc, hcm, hc, hx⟩ := hv.at 0 (by simp)
  simp only [Nat.add_zero, List.getElem_cons_zero] at hc hx
  subst hv'
  unfold maxLen at hcm
  rw [show stepB = ⟨#[115, 116, 101, 112]⟩ from rfl] at hc
  have hsz : ∀ y ∈ [x1, x2, x3, x4, x5, x6], y.size ≤ 200 := fun y hy => words_small hE (by rw [hL]; simp at hy ⊢; right; exact hy)
  have hS := jstep_any who g la ln lc W2 (.slice (some ⟨b, off, none⟩) 7 c) stepB x1 x2 x3 x4 x5 x6 (by simpa using hv) hsz hzones hhours
  simp only [List.length_cons, List.length_nil, Nat.zero_add, Nat.reduceAdd] at hlc ⊢
  have y0 := blk_cell eg2 0 (.int .i64 g.zones) rfl
  have y1 := blk_cell eg2 1 (.int .i64 g.hours) rfl
  have y2 := blk_cell eg2 2 (.slice la ln lc) rfl
  have y3 := blk_cell eg2 3 (.int .i64 g.low) rfl
  have y4 := blk_cell eg2 4 (.int .i64 g.high) rfl
  clear hv hsz hx eg2
  rw [stepP_ok he] at hS
  dsimp only [askV, ak0, stepA, List.length_nil] at hS
  go_wp2_with fail
  refine hS.mono ?_
  rintro r3 W3 ⟨⟨q, rfl, iq, nq⟩, b3⟩
  obtain ⟨qa, qc, hq, -, -⟩ := iq.slice
  subst hq
  simp only [List.length_nil]
  have er3 := blk_below er2 b3
  have B3 := chain2 B2 b3
  have hr := rowOf_is (n := 18) er3 rfl
  have e4 := setRow_heap _ _ _ #[.int .i64 2, .int .i64 0, .int .i64 0, .string who, .int .i64 (numR x1), .int .i64 (numR x2), .int .i64 (numR x3), .bool (decide (x4 = buyB)), .int .i64 (numR x5), .int .i64 (numR x6), .string ⟨#[]⟩, .int .i64 0, .int .i64 0, .bool false, .int .i64 0, .slice qa 0 qc, .int .i64 0, .int .i64 0] _ _ er3
  have b4 := below_rowJ (g := w.heap.size + 1) B3 (by omega) #[.int .i64 2, .int .i64 0, .int .i64 0, .string who, .int .i64 (numR x1), .int .i64 (numR x2), .int .i64 (numR x3), .bool (decide (x4 = buyB)), .int .i64 (numR x5), .int .i64 (numR x6), .string ⟨#[]⟩, .int .i64 0, .int .i64 0, .bool false, .int .i64 0, .slice qa 0 qc, .int .i64 0, .int .i64 0]
  have iq4 : Ints (W3.setRow (w.heap.size + 1) #[.int .i64 2, .int .i64 0, .int .i64 0, .string who, .int .i64 (numR x1), .int .i64 (numR x2), .int .i64 (numR x3), .bool (decide (x4 = buyB)), .int .i64 (numR x5), .int .i64 (numR x6), .string ⟨#[]⟩, .int .i64 0, .int .i64 0, .bool false, .int .i64 0, .slice qa 0 qc, .int .i64 0, .int .i64 0]) (.slice qa 0 qc) [] := by
    obtain ⟨a', c', h1, h2, h3, _⟩ := iq
    exact ⟨a', c', h1, h2, h3, Or.inl rfl⟩
  clear er2 er3
  go_wp2
  exact bodyPost_ret (results_cell_tmp Tryd.results9 _ _ (w.heap.size + 1) _ _ _ _ (by rfl) e4 Tryd.underlying36 (by rfl) info_refAsk) rfl ⟨⟨.slice qa 0 qc, rfl, iq4⟩, b4⟩
end Go.Proofs.YthhikmlbpagknaaDoor
