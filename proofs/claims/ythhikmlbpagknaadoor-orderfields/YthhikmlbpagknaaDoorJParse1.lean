/- The document's order: Parse, refused by its words; a Lock, a Cancel. -/
import Derived.Test.YthhikmlbpagknaaDoorJStep
import Derived.Test.YthhikmlbpagknaaDoorKParse1
import Derived.Test.YthhikmlbpagknaaDoorLZWords
namespace Go.Proofs.YthhikmlbpagknaaDoor
open Go.RowKit
set_option linter.unusedVariables false
set_option maxRecDepth 100000
set_option linter.unusedSimpArgs false

set_option maxHeartbeats 6400000 in
theorem jparse_words (who line : ByteArray) (g : Gd) (la : Option Addr) (ln lc : Nat) (w : World) (hwho : who.size ≤ 1000000000) (hline : line.size ≤ 1000000000) (n : Int) (hE : wordsE line = n) (hn : n ≠ 0) :
    Calls Tryd.prog 9 #[.string who, .string line, .agg #[.int .i64 g.zones, .int .i64 g.hours, .slice la ln lc, .int .i64 g.low, .int .i64 g.high]] w fun r w' => (∃ q, r = .returned (.tuple #[.agg (askV (ak0) q), .int .i64 (n)]) ∧ Ints w' q (ak0).bq) ∧ Below w.heap.size w w' := by
  have b1 := alloc2_below w (Obj.cells #[.int .i64 g.zones, .int .i64 g.hours, .slice la ln lc, .int .i64 g.low, .int .i64 g.high] 24) (Obj.cells #[.int .i64 0, .int .i64 0, .int .i64 0, .string ⟨#[]⟩, .int .i64 0, .int .i64 0, .int .i64 0, .bool false, .int .i64 0, .int .i64 0, .string ⟨#[]⟩, .int .i64 0, .int .i64 0, .bool false, .int .i64 0, .slice none 0 0, .int .i64 0, .int .i64 0] 36)
  have eg : ((w.alloc (Obj.cells #[.int .i64 g.zones, .int .i64 g.hours, .slice la ln lc, .int .i64 g.low, .int .i64 g.high] 24)).alloc (Obj.cells #[.int .i64 0, .int .i64 0, .int .i64 0, .string ⟨#[]⟩, .int .i64 0, .int .i64 0, .int .i64 0, .bool false, .int .i64 0, .int .i64 0, .string ⟨#[]⟩, .int .i64 0, .int .i64 0, .bool false, .int .i64 0, .slice none 0 0, .int .i64 0, .int .i64 0] 36)).heap[w.heap.size]? = some (Obj.cells #[.int .i64 g.zones, .int .i64 g.hours, .slice la ln lc, .int .i64 g.low, .int .i64 g.high] 24 (0, 0)) := blk_below (heap_alloc_last w _) ((Below.refl _ _).alloc (Nat.le_refl _) _)
  have er : ((w.alloc (Obj.cells #[.int .i64 g.zones, .int .i64 g.hours, .slice la ln lc, .int .i64 g.low, .int .i64 g.high] 24)).alloc (Obj.cells #[.int .i64 0, .int .i64 0, .int .i64 0, .string ⟨#[]⟩, .int .i64 0, .int .i64 0, .int .i64 0, .bool false, .int .i64 0, .int .i64 0, .string ⟨#[]⟩, .int .i64 0, .int .i64 0, .bool false, .int .i64 0, .slice none 0 0, .int .i64 0, .int .i64 0] 36)).heap[w.heap.size + 1]? = some (Obj.cells #[.int .i64 0, .int .i64 0, .int .i64 0, .string ⟨#[]⟩, .int .i64 0, .int .i64 0, .int .i64 0, .bool false, .int .i64 0, .int .i64 0, .string ⟨#[]⟩, .int .i64 0, .int .i64 0, .bool false, .int .i64 0, .slice none 0 0, .int .i64 0, .int .i64 0] 36 (0, 0)) := heap_alloc2_new _ _ _
  go_enter Tryd.func9, Tryd.ntmps9
  go_wp2_with fail
  generalize (w.alloc (Obj.cells #[.int .i64 g.zones, .int .i64 g.hours, .slice la ln lc, .int .i64 g.low, .int .i64 g.high] 24)).alloc (Obj.cells #[.int .i64 0, .int .i64 0, .int .i64 0, .string ⟨#[]⟩, .int .i64 0, .int .i64 0, .int .i64 0, .bool false, .int .i64 0, .int .i64 0, .string ⟨#[]⟩, .int .i64 0, .int .i64 0, .bool false, .int .i64 0, .slice none 0 0, .int .i64 0, .int .i64 0] 36) = W1 at *
  refine (zwords_any line W1 (by omega)).mono ?_
  rintro r2 W2 ⟨⟨v, rfl, hv⟩, b2⟩
  have er2 := blk_below er b2
  have eg2 := blk_below eg b2
  have B2 := chain2 b1 b2
  have hz2 := B2.size
  have hr2 := lt_of_block er2
  clear b1 b2 eg er
  rw [hE] at ⊢
  have hn' : (n != 0) = true := by simp [hn]
  obtain ⟨va, vc, hv', -, -⟩ := hv.slice
  subst hv'
  clear hv
  have hr := rowOf_is (n := 18) er2 rfl
  have e4 := setRow_heap _ _ _ #[.int .i64 0, .int .i64 0, .int .i64 0, .string ⟨#[]⟩, .int .i64 0, .int .i64 0, .int .i64 0, .bool false, .int .i64 0, .int .i64 0, .string ⟨#[]⟩, .int .i64 0, .int .i64 0, .bool false, .int .i64 0, .slice none 0 0, .int .i64 0, .int .i64 0] _ _ er2
  have b4 := below_rowJ (g := w.heap.size + 1) B2 (by omega) #[.int .i64 0, .int .i64 0, .int .i64 0, .string ⟨#[]⟩, .int .i64 0, .int .i64 0, .int .i64 0, .bool false, .int .i64 0, .int .i64 0, .string ⟨#[]⟩, .int .i64 0, .int .i64 0, .bool false, .int .i64 0, .slice none 0 0, .int .i64 0, .int .i64 0]
  clear er2 eg2
  go_wp2
  exact bodyPost_ret (results_cell_tmp Tryd.results9 _ _ (w.heap.size + 1) _ _ _ _ (by rfl) e4 Tryd.underlying36 (by rfl) info_refAsk) rfl ⟨⟨.slice none 0 0, rfl, Row1.nil _⟩, b4⟩
set_option maxHeartbeats 6400000 in
theorem jparse_verb (who line : ByteArray) (g : Gd) (la : Option Addr) (ln lc : Nat) (w : World) (hwho : who.size ≤ 1000000000) (hline : line.size ≤ 1000000000) (hE : wordsE line = 0) (x0 : ByteArray) (R : List ByteArray) (hL : wordsL line = x0 :: R) (h1 : ¬ x0 = lockB) (h2 : ¬ x0 = stepB) (h3 : ¬ x0 = blockB) (h4 : ¬ x0 = cancelB) :
    Calls Tryd.prog 9 #[.string who, .string line, .agg #[.int .i64 g.zones, .int .i64 g.hours, .slice la ln lc, .int .i64 g.low, .int .i64 g.high]] w fun r w' => (∃ q, r = .returned (.tuple #[.agg (askV (ak0) q), .int .i64 (90)]) ∧ Ints w' q (ak0).bq) ∧ Below w.heap.size w w' := by
  have b1 := alloc2_below w (Obj.cells #[.int .i64 g.zones, .int .i64 g.hours, .slice la ln lc, .int .i64 g.low, .int .i64 g.high] 24) (Obj.cells #[.int .i64 0, .int .i64 0, .int .i64 0, .string ⟨#[]⟩, .int .i64 0, .int .i64 0, .int .i64 0, .bool false, .int .i64 0, .int .i64 0, .string ⟨#[]⟩, .int .i64 0, .int .i64 0, .bool false, .int .i64 0, .slice none 0 0, .int .i64 0, .int .i64 0] 36)
  have eg : ((w.alloc (Obj.cells #[.int .i64 g.zones, .int .i64 g.hours, .slice la ln lc, .int .i64 g.low, .int .i64 g.high] 24)).alloc (Obj.cells #[.int .i64 0, .int .i64 0, .int .i64 0, .string ⟨#[]⟩, .int .i64 0, .int .i64 0, .int .i64 0, .bool false, .int .i64 0, .int .i64 0, .string ⟨#[]⟩, .int .i64 0, .int .i64 0, .bool false, .int .i64 0, .slice none 0 0, .int .i64 0, .int .i64 0] 36)).heap[w.heap.size]? = some (Obj.cells #[.int .i64 g.zones, .int .i64 g.hours, .slice la ln lc, .int .i64 g.low, .int .i64 g.high] 24 (0, 0)) := blk_below (heap_alloc_last w _) ((Below.refl _ _).alloc (Nat.le_refl _) _)
  have er : ((w.alloc (Obj.cells #[.int .i64 g.zones, .int .i64 g.hours, .slice la ln lc, .int .i64 g.low, .int .i64 g.high] 24)).alloc (Obj.cells #[.int .i64 0, .int .i64 0, .int .i64 0, .string ⟨#[]⟩, .int .i64 0, .int .i64 0, .int .i64 0, .bool false, .int .i64 0, .int .i64 0, .string ⟨#[]⟩, .int .i64 0, .int .i64 0, .bool false, .int .i64 0, .slice none 0 0, .int .i64 0, .int .i64 0] 36)).heap[w.heap.size + 1]? = some (Obj.cells #[.int .i64 0, .int .i64 0, .int .i64 0, .string ⟨#[]⟩, .int .i64 0, .int .i64 0, .int .i64 0, .bool false, .int .i64 0, .int .i64 0, .string ⟨#[]⟩, .int .i64 0, .int .i64 0, .bool false, .int .i64 0, .slice none 0 0, .int .i64 0, .int .i64 0] 36 (0, 0)) := heap_alloc2_new _ _ _
  go_enter Tryd.func9, Tryd.ntmps9
  go_wp2_with fail
  generalize (w.alloc (Obj.cells #[.int .i64 g.zones, .int .i64 g.hours, .slice la ln lc, .int .i64 g.low, .int .i64 g.high] 24)).alloc (Obj.cells #[.int .i64 0, .int .i64 0, .int .i64 0, .string ⟨#[]⟩, .int .i64 0, .int .i64 0, .int .i64 0, .bool false, .int .i64 0, .int .i64 0, .string ⟨#[]⟩, .int .i64 0, .int .i64 0, .bool false, .int .i64 0, .slice none 0 0, .int .i64 0, .int .i64 0] 36) = W1 at *
  refine (zwords_any line W1 (by omega)).mono ?_
  rintro r2 W2 ⟨⟨v, rfl, hv⟩, b2⟩
  have er2 := blk_below er b2
  have eg2 := blk_below eg b2
  have B2 := chain2 b1 b2
  have hz2 := B2.size
  have hr2 := lt_of_block er2
  clear b1 b2 eg er
  rw [hE] at ⊢
  rw [hL] at hv
  obtain ⟨b, off, c, hv', hlc, hcm, hc, hx⟩ := hv.at 0 (by simp)
  simp only [Nat.add_zero, List.getElem_cons_zero] at hc hx
  subst hv'
  unfold maxLen at hcm
  obtain ⟨t1, u1⟩ := toL_ne (l := [108, 111, 99, 107]) h1
  obtain ⟨t2, u2⟩ := toL_ne (l := [115, 116, 101, 112]) h2
  obtain ⟨t3, u3⟩ := toL_ne (l := [98, 108, 111, 99, 107]) h3
  obtain ⟨t4, u4⟩ := toL_ne (l := [99, 97, 110, 99, 101, 108]) h4
  clear h1 h2 h3 h4
  simp only [List.length_cons] at hlc ⊢
  obtain ⟨n, hn⟩ : ∃ n, R.length + 1 = n := ⟨_, rfl⟩
  rw [hn] at hlc ⊢
  have hn0 : (0 : Int) < (n : Int) := by omega
  have hr := rowOf_is (n := 18) er2 rfl
  have e4 := setRow_heap _ _ _ #[.int .i64 0, .int .i64 0, .int .i64 0, .string ⟨#[]⟩, .int .i64 0, .int .i64 0, .int .i64 0, .bool false, .int .i64 0, .int .i64 0, .string ⟨#[]⟩, .int .i64 0, .int .i64 0, .bool false, .int .i64 0, .slice none 0 0, .int .i64 0, .int .i64 0] _ _ er2
  have b4 := below_rowJ (g := w.heap.size + 1) B2 (by omega) #[.int .i64 0, .int .i64 0, .int .i64 0, .string ⟨#[]⟩, .int .i64 0, .int .i64 0, .int .i64 0, .bool false, .int .i64 0, .int .i64 0, .string ⟨#[]⟩, .int .i64 0, .int .i64 0, .bool false, .int .i64 0, .slice none 0 0, .int .i64 0, .int .i64 0]
  clear er2 eg2
  go_wp2
  exact bodyPost_ret (results_cell_tmp Tryd.results9 _ _ (w.heap.size + 1) _ _ _ _ (by rfl) e4 Tryd.underlying36 (by rfl) info_refAsk) rfl ⟨⟨.slice none 0 0, rfl, Row1.nil _⟩, b4⟩
set_option maxHeartbeats 6400000 in
theorem jparse_manylock (who line : ByteArray) (g : Gd) (la : Option Addr) (ln lc : Nat) (w : World) (hwho : who.size ≤ 1000000000) (hline : line.size ≤ 1000000000) (hE : wordsE line = 0) (R : List ByteArray) (hL : wordsL line = lockB :: R) (hR : R.length ≠ 1) :
    Calls Tryd.prog 9 #[.string who, .string line, .agg #[.int .i64 g.zones, .int .i64 g.hours, .slice la ln lc, .int .i64 g.low, .int .i64 g.high]] w fun r w' => (∃ q, r = .returned (.tuple #[.agg (askV (ak0) q), .int .i64 (91)]) ∧ Ints w' q (ak0).bq) ∧ Below w.heap.size w w' := by
  have b1 := alloc2_below w (Obj.cells #[.int .i64 g.zones, .int .i64 g.hours, .slice la ln lc, .int .i64 g.low, .int .i64 g.high] 24) (Obj.cells #[.int .i64 0, .int .i64 0, .int .i64 0, .string ⟨#[]⟩, .int .i64 0, .int .i64 0, .int .i64 0, .bool false, .int .i64 0, .int .i64 0, .string ⟨#[]⟩, .int .i64 0, .int .i64 0, .bool false, .int .i64 0, .slice none 0 0, .int .i64 0, .int .i64 0] 36)
  have eg : ((w.alloc (Obj.cells #[.int .i64 g.zones, .int .i64 g.hours, .slice la ln lc, .int .i64 g.low, .int .i64 g.high] 24)).alloc (Obj.cells #[.int .i64 0, .int .i64 0, .int .i64 0, .string ⟨#[]⟩, .int .i64 0, .int .i64 0, .int .i64 0, .bool false, .int .i64 0, .int .i64 0, .string ⟨#[]⟩, .int .i64 0, .int .i64 0, .bool false, .int .i64 0, .slice none 0 0, .int .i64 0, .int .i64 0] 36)).heap[w.heap.size]? = some (Obj.cells #[.int .i64 g.zones, .int .i64 g.hours, .slice la ln lc, .int .i64 g.low, .int .i64 g.high] 24 (0, 0)) := blk_below (heap_alloc_last w _) ((Below.refl _ _).alloc (Nat.le_refl _) _)
  have er : ((w.alloc (Obj.cells #[.int .i64 g.zones, .int .i64 g.hours, .slice la ln lc, .int .i64 g.low, .int .i64 g.high] 24)).alloc (Obj.cells #[.int .i64 0, .int .i64 0, .int .i64 0, .string ⟨#[]⟩, .int .i64 0, .int .i64 0, .int .i64 0, .bool false, .int .i64 0, .int .i64 0, .string ⟨#[]⟩, .int .i64 0, .int .i64 0, .bool false, .int .i64 0, .slice none 0 0, .int .i64 0, .int .i64 0] 36)).heap[w.heap.size + 1]? = some (Obj.cells #[.int .i64 0, .int .i64 0, .int .i64 0, .string ⟨#[]⟩, .int .i64 0, .int .i64 0, .int .i64 0, .bool false, .int .i64 0, .int .i64 0, .string ⟨#[]⟩, .int .i64 0, .int .i64 0, .bool false, .int .i64 0, .slice none 0 0, .int .i64 0, .int .i64 0] 36 (0, 0)) := heap_alloc2_new _ _ _
  go_enter Tryd.func9, Tryd.ntmps9
  go_wp2_with fail
  generalize (w.alloc (Obj.cells #[.int .i64 g.zones, .int .i64 g.hours, .slice la ln lc, .int .i64 g.low, .int .i64 g.high] 24)).alloc (Obj.cells #[.int .i64 0, .int .i64 0, .int .i64 0, .string ⟨#[]⟩, .int .i64 0, .int .i64 0, .int .i64 0, .bool false, .int .i64 0, .int .i64 0, .string ⟨#[]⟩, .int .i64 0, .int .i64 0, .bool false, .int .i64 0, .slice none 0 0, .int .i64 0, .int .i64 0] 36) = W1 at *
  refine (zwords_any line W1 (by omega)).mono ?_
  rintro r2 W2 ⟨⟨v, rfl, hv⟩, b2⟩
  have er2 := blk_below er b2
  have eg2 := blk_below eg b2
  have B2 := chain2 b1 b2
  have hz2 := B2.size
  have hr2 := lt_of_block er2
  clear b1 b2 eg er
  rw [hE] at ⊢
  rw [hL] at hv
  obtain ⟨b, off, c, hv', hlc, hcm, hc, hx⟩ := hv.at 0 (by simp)
  simp only [Nat.add_zero, List.getElem_cons_zero] at hc hx
  subst hv'
  unfold maxLen at hcm
  rw [show lockB = ⟨#[108, 111, 99, 107]⟩ from rfl] at hc
  simp only [List.length_cons] at hlc ⊢
  obtain ⟨n, hn⟩ : ∃ n, R.length + 1 = n := ⟨_, rfl⟩
  rw [hn] at hlc ⊢
  have hnn : ¬ (n : Int) = 2 := by omega
  have hn0 : (0 : Int) < (n : Int) := by omega
  have hr := rowOf_is (n := 18) er2 rfl
  have e4 := setRow_heap _ _ _ #[.int .i64 0, .int .i64 0, .int .i64 0, .string ⟨#[]⟩, .int .i64 0, .int .i64 0, .int .i64 0, .bool false, .int .i64 0, .int .i64 0, .string ⟨#[]⟩, .int .i64 0, .int .i64 0, .bool false, .int .i64 0, .slice none 0 0, .int .i64 0, .int .i64 0] _ _ er2
  have b4 := below_rowJ (g := w.heap.size + 1) B2 (by omega) #[.int .i64 0, .int .i64 0, .int .i64 0, .string ⟨#[]⟩, .int .i64 0, .int .i64 0, .int .i64 0, .bool false, .int .i64 0, .int .i64 0, .string ⟨#[]⟩, .int .i64 0, .int .i64 0, .bool false, .int .i64 0, .slice none 0 0, .int .i64 0, .int .i64 0]
  clear er2 eg2
  go_wp2
  exact bodyPost_ret (results_cell_tmp Tryd.results9 _ _ (w.heap.size + 1) _ _ _ _ (by rfl) e4 Tryd.underlying36 (by rfl) info_refAsk) rfl ⟨⟨.slice none 0 0, rfl, Row1.nil _⟩, b4⟩
set_option maxHeartbeats 6400000 in
theorem jparse_manystep (who line : ByteArray) (g : Gd) (la : Option Addr) (ln lc : Nat) (w : World) (hwho : who.size ≤ 1000000000) (hline : line.size ≤ 1000000000) (hE : wordsE line = 0) (R : List ByteArray) (hL : wordsL line = stepB :: R) (hR : R.length ≠ 6) :
    Calls Tryd.prog 9 #[.string who, .string line, .agg #[.int .i64 g.zones, .int .i64 g.hours, .slice la ln lc, .int .i64 g.low, .int .i64 g.high]] w fun r w' => (∃ q, r = .returned (.tuple #[.agg (askV (ak0) q), .int .i64 (91)]) ∧ Ints w' q (ak0).bq) ∧ Below w.heap.size w w' := by
  have b1 := alloc2_below w (Obj.cells #[.int .i64 g.zones, .int .i64 g.hours, .slice la ln lc, .int .i64 g.low, .int .i64 g.high] 24) (Obj.cells #[.int .i64 0, .int .i64 0, .int .i64 0, .string ⟨#[]⟩, .int .i64 0, .int .i64 0, .int .i64 0, .bool false, .int .i64 0, .int .i64 0, .string ⟨#[]⟩, .int .i64 0, .int .i64 0, .bool false, .int .i64 0, .slice none 0 0, .int .i64 0, .int .i64 0] 36)
  have eg : ((w.alloc (Obj.cells #[.int .i64 g.zones, .int .i64 g.hours, .slice la ln lc, .int .i64 g.low, .int .i64 g.high] 24)).alloc (Obj.cells #[.int .i64 0, .int .i64 0, .int .i64 0, .string ⟨#[]⟩, .int .i64 0, .int .i64 0, .int .i64 0, .bool false, .int .i64 0, .int .i64 0, .string ⟨#[]⟩, .int .i64 0, .int .i64 0, .bool false, .int .i64 0, .slice none 0 0, .int .i64 0, .int .i64 0] 36)).heap[w.heap.size]? = some (Obj.cells #[.int .i64 g.zones, .int .i64 g.hours, .slice la ln lc, .int .i64 g.low, .int .i64 g.high] 24 (0, 0)) := blk_below (heap_alloc_last w _) ((Below.refl _ _).alloc (Nat.le_refl _) _)
  have er : ((w.alloc (Obj.cells #[.int .i64 g.zones, .int .i64 g.hours, .slice la ln lc, .int .i64 g.low, .int .i64 g.high] 24)).alloc (Obj.cells #[.int .i64 0, .int .i64 0, .int .i64 0, .string ⟨#[]⟩, .int .i64 0, .int .i64 0, .int .i64 0, .bool false, .int .i64 0, .int .i64 0, .string ⟨#[]⟩, .int .i64 0, .int .i64 0, .bool false, .int .i64 0, .slice none 0 0, .int .i64 0, .int .i64 0] 36)).heap[w.heap.size + 1]? = some (Obj.cells #[.int .i64 0, .int .i64 0, .int .i64 0, .string ⟨#[]⟩, .int .i64 0, .int .i64 0, .int .i64 0, .bool false, .int .i64 0, .int .i64 0, .string ⟨#[]⟩, .int .i64 0, .int .i64 0, .bool false, .int .i64 0, .slice none 0 0, .int .i64 0, .int .i64 0] 36 (0, 0)) := heap_alloc2_new _ _ _
  go_enter Tryd.func9, Tryd.ntmps9
  go_wp2_with fail
  generalize (w.alloc (Obj.cells #[.int .i64 g.zones, .int .i64 g.hours, .slice la ln lc, .int .i64 g.low, .int .i64 g.high] 24)).alloc (Obj.cells #[.int .i64 0, .int .i64 0, .int .i64 0, .string ⟨#[]⟩, .int .i64 0, .int .i64 0, .int .i64 0, .bool false, .int .i64 0, .int .i64 0, .string ⟨#[]⟩, .int .i64 0, .int .i64 0, .bool false, .int .i64 0, .slice none 0 0, .int .i64 0, .int .i64 0] 36) = W1 at *
  refine (zwords_any line W1 (by omega)).mono ?_
  rintro r2 W2 ⟨⟨v, rfl, hv⟩, b2⟩
  have er2 := blk_below er b2
  have eg2 := blk_below eg b2
  have B2 := chain2 b1 b2
  have hz2 := B2.size
  have hr2 := lt_of_block er2
  clear b1 b2 eg er
  rw [hE] at ⊢
  rw [hL] at hv
  obtain ⟨b, off, c, hv', hlc, hcm, hc, hx⟩ := hv.at 0 (by simp)
  simp only [Nat.add_zero, List.getElem_cons_zero] at hc hx
  subst hv'
  unfold maxLen at hcm
  rw [show stepB = ⟨#[115, 116, 101, 112]⟩ from rfl] at hc
  simp only [List.length_cons] at hlc ⊢
  obtain ⟨n, hn⟩ : ∃ n, R.length + 1 = n := ⟨_, rfl⟩
  rw [hn] at hlc ⊢
  have hnn : ¬ (n : Int) = 7 := by omega
  have hn0 : (0 : Int) < (n : Int) := by omega
  have hr := rowOf_is (n := 18) er2 rfl
  have e4 := setRow_heap _ _ _ #[.int .i64 0, .int .i64 0, .int .i64 0, .string ⟨#[]⟩, .int .i64 0, .int .i64 0, .int .i64 0, .bool false, .int .i64 0, .int .i64 0, .string ⟨#[]⟩, .int .i64 0, .int .i64 0, .bool false, .int .i64 0, .slice none 0 0, .int .i64 0, .int .i64 0] _ _ er2
  have b4 := below_rowJ (g := w.heap.size + 1) B2 (by omega) #[.int .i64 0, .int .i64 0, .int .i64 0, .string ⟨#[]⟩, .int .i64 0, .int .i64 0, .int .i64 0, .bool false, .int .i64 0, .int .i64 0, .string ⟨#[]⟩, .int .i64 0, .int .i64 0, .bool false, .int .i64 0, .slice none 0 0, .int .i64 0, .int .i64 0]
  clear er2 eg2
  go_wp2
  exact bodyPost_ret (results_cell_tmp Tryd.results9 _ _ (w.heap.size + 1) _ _ _ _ (by rfl) e4 Tryd.underlying36 (by rfl) info_refAsk) rfl ⟨⟨.slice none 0 0, rfl, Row1.nil _⟩, b4⟩
set_option maxHeartbeats 6400000 in
theorem jparse_manyblock (who line : ByteArray) (g : Gd) (la : Option Addr) (ln lc : Nat) (w : World) (hwho : who.size ≤ 1000000000) (hline : line.size ≤ 1000000000) (hE : wordsE line = 0) (R : List ByteArray) (hL : wordsL line = blockB :: R) (hR : R.length ≠ 7) :
    Calls Tryd.prog 9 #[.string who, .string line, .agg #[.int .i64 g.zones, .int .i64 g.hours, .slice la ln lc, .int .i64 g.low, .int .i64 g.high]] w fun r w' => (∃ q, r = .returned (.tuple #[.agg (askV (ak0) q), .int .i64 (91)]) ∧ Ints w' q (ak0).bq) ∧ Below w.heap.size w w' := by
  have b1 := alloc2_below w (Obj.cells #[.int .i64 g.zones, .int .i64 g.hours, .slice la ln lc, .int .i64 g.low, .int .i64 g.high] 24) (Obj.cells #[.int .i64 0, .int .i64 0, .int .i64 0, .string ⟨#[]⟩, .int .i64 0, .int .i64 0, .int .i64 0, .bool false, .int .i64 0, .int .i64 0, .string ⟨#[]⟩, .int .i64 0, .int .i64 0, .bool false, .int .i64 0, .slice none 0 0, .int .i64 0, .int .i64 0] 36)
  have eg : ((w.alloc (Obj.cells #[.int .i64 g.zones, .int .i64 g.hours, .slice la ln lc, .int .i64 g.low, .int .i64 g.high] 24)).alloc (Obj.cells #[.int .i64 0, .int .i64 0, .int .i64 0, .string ⟨#[]⟩, .int .i64 0, .int .i64 0, .int .i64 0, .bool false, .int .i64 0, .int .i64 0, .string ⟨#[]⟩, .int .i64 0, .int .i64 0, .bool false, .int .i64 0, .slice none 0 0, .int .i64 0, .int .i64 0] 36)).heap[w.heap.size]? = some (Obj.cells #[.int .i64 g.zones, .int .i64 g.hours, .slice la ln lc, .int .i64 g.low, .int .i64 g.high] 24 (0, 0)) := blk_below (heap_alloc_last w _) ((Below.refl _ _).alloc (Nat.le_refl _) _)
  have er : ((w.alloc (Obj.cells #[.int .i64 g.zones, .int .i64 g.hours, .slice la ln lc, .int .i64 g.low, .int .i64 g.high] 24)).alloc (Obj.cells #[.int .i64 0, .int .i64 0, .int .i64 0, .string ⟨#[]⟩, .int .i64 0, .int .i64 0, .int .i64 0, .bool false, .int .i64 0, .int .i64 0, .string ⟨#[]⟩, .int .i64 0, .int .i64 0, .bool false, .int .i64 0, .slice none 0 0, .int .i64 0, .int .i64 0] 36)).heap[w.heap.size + 1]? = some (Obj.cells #[.int .i64 0, .int .i64 0, .int .i64 0, .string ⟨#[]⟩, .int .i64 0, .int .i64 0, .int .i64 0, .bool false, .int .i64 0, .int .i64 0, .string ⟨#[]⟩, .int .i64 0, .int .i64 0, .bool false, .int .i64 0, .slice none 0 0, .int .i64 0, .int .i64 0] 36 (0, 0)) := heap_alloc2_new _ _ _
  go_enter Tryd.func9, Tryd.ntmps9
  go_wp2_with fail
  generalize (w.alloc (Obj.cells #[.int .i64 g.zones, .int .i64 g.hours, .slice la ln lc, .int .i64 g.low, .int .i64 g.high] 24)).alloc (Obj.cells #[.int .i64 0, .int .i64 0, .int .i64 0, .string ⟨#[]⟩, .int .i64 0, .int .i64 0, .int .i64 0, .bool false, .int .i64 0, .int .i64 0, .string ⟨#[]⟩, .int .i64 0, .int .i64 0, .bool false, .int .i64 0, .slice none 0 0, .int .i64 0, .int .i64 0] 36) = W1 at *
  refine (zwords_any line W1 (by omega)).mono ?_
  rintro r2 W2 ⟨⟨v, rfl, hv⟩, b2⟩
  have er2 := blk_below er b2
  have eg2 := blk_below eg b2
  have B2 := chain2 b1 b2
  have hz2 := B2.size
  have hr2 := lt_of_block er2
  clear b1 b2 eg er
  rw [hE] at ⊢
  rw [hL] at hv
  obtain ⟨b, off, c, hv', hlc, hcm, hc, hx⟩ := hv.at 0 (by simp)
  simp only [Nat.add_zero, List.getElem_cons_zero] at hc hx
  subst hv'
  unfold maxLen at hcm
  rw [show blockB = ⟨#[98, 108, 111, 99, 107]⟩ from rfl] at hc
  simp only [List.length_cons] at hlc ⊢
  obtain ⟨n, hn⟩ : ∃ n, R.length + 1 = n := ⟨_, rfl⟩
  rw [hn] at hlc ⊢
  have hnn : ¬ (n : Int) = 8 := by omega
  have hn0 : (0 : Int) < (n : Int) := by omega
  have hr := rowOf_is (n := 18) er2 rfl
  have e4 := setRow_heap _ _ _ #[.int .i64 0, .int .i64 0, .int .i64 0, .string ⟨#[]⟩, .int .i64 0, .int .i64 0, .int .i64 0, .bool false, .int .i64 0, .int .i64 0, .string ⟨#[]⟩, .int .i64 0, .int .i64 0, .bool false, .int .i64 0, .slice none 0 0, .int .i64 0, .int .i64 0] _ _ er2
  have b4 := below_rowJ (g := w.heap.size + 1) B2 (by omega) #[.int .i64 0, .int .i64 0, .int .i64 0, .string ⟨#[]⟩, .int .i64 0, .int .i64 0, .int .i64 0, .bool false, .int .i64 0, .int .i64 0, .string ⟨#[]⟩, .int .i64 0, .int .i64 0, .bool false, .int .i64 0, .slice none 0 0, .int .i64 0, .int .i64 0]
  clear er2 eg2
  go_wp2
  exact bodyPost_ret (results_cell_tmp Tryd.results9 _ _ (w.heap.size + 1) _ _ _ _ (by rfl) e4 Tryd.underlying36 (by rfl) info_refAsk) rfl ⟨⟨.slice none 0 0, rfl, Row1.nil _⟩, b4⟩
set_option maxHeartbeats 6400000 in
theorem jparse_manycancel (who line : ByteArray) (g : Gd) (la : Option Addr) (ln lc : Nat) (w : World) (hwho : who.size ≤ 1000000000) (hline : line.size ≤ 1000000000) (hE : wordsE line = 0) (R : List ByteArray) (hL : wordsL line = cancelB :: R) (hR : R.length ≠ 1) :
    Calls Tryd.prog 9 #[.string who, .string line, .agg #[.int .i64 g.zones, .int .i64 g.hours, .slice la ln lc, .int .i64 g.low, .int .i64 g.high]] w fun r w' => (∃ q, r = .returned (.tuple #[.agg (askV (ak0) q), .int .i64 (91)]) ∧ Ints w' q (ak0).bq) ∧ Below w.heap.size w w' := by
  have b1 := alloc2_below w (Obj.cells #[.int .i64 g.zones, .int .i64 g.hours, .slice la ln lc, .int .i64 g.low, .int .i64 g.high] 24) (Obj.cells #[.int .i64 0, .int .i64 0, .int .i64 0, .string ⟨#[]⟩, .int .i64 0, .int .i64 0, .int .i64 0, .bool false, .int .i64 0, .int .i64 0, .string ⟨#[]⟩, .int .i64 0, .int .i64 0, .bool false, .int .i64 0, .slice none 0 0, .int .i64 0, .int .i64 0] 36)
  have eg : ((w.alloc (Obj.cells #[.int .i64 g.zones, .int .i64 g.hours, .slice la ln lc, .int .i64 g.low, .int .i64 g.high] 24)).alloc (Obj.cells #[.int .i64 0, .int .i64 0, .int .i64 0, .string ⟨#[]⟩, .int .i64 0, .int .i64 0, .int .i64 0, .bool false, .int .i64 0, .int .i64 0, .string ⟨#[]⟩, .int .i64 0, .int .i64 0, .bool false, .int .i64 0, .slice none 0 0, .int .i64 0, .int .i64 0] 36)).heap[w.heap.size]? = some (Obj.cells #[.int .i64 g.zones, .int .i64 g.hours, .slice la ln lc, .int .i64 g.low, .int .i64 g.high] 24 (0, 0)) := blk_below (heap_alloc_last w _) ((Below.refl _ _).alloc (Nat.le_refl _) _)
  have er : ((w.alloc (Obj.cells #[.int .i64 g.zones, .int .i64 g.hours, .slice la ln lc, .int .i64 g.low, .int .i64 g.high] 24)).alloc (Obj.cells #[.int .i64 0, .int .i64 0, .int .i64 0, .string ⟨#[]⟩, .int .i64 0, .int .i64 0, .int .i64 0, .bool false, .int .i64 0, .int .i64 0, .string ⟨#[]⟩, .int .i64 0, .int .i64 0, .bool false, .int .i64 0, .slice none 0 0, .int .i64 0, .int .i64 0] 36)).heap[w.heap.size + 1]? = some (Obj.cells #[.int .i64 0, .int .i64 0, .int .i64 0, .string ⟨#[]⟩, .int .i64 0, .int .i64 0, .int .i64 0, .bool false, .int .i64 0, .int .i64 0, .string ⟨#[]⟩, .int .i64 0, .int .i64 0, .bool false, .int .i64 0, .slice none 0 0, .int .i64 0, .int .i64 0] 36 (0, 0)) := heap_alloc2_new _ _ _
  go_enter Tryd.func9, Tryd.ntmps9
  go_wp2_with fail
  generalize (w.alloc (Obj.cells #[.int .i64 g.zones, .int .i64 g.hours, .slice la ln lc, .int .i64 g.low, .int .i64 g.high] 24)).alloc (Obj.cells #[.int .i64 0, .int .i64 0, .int .i64 0, .string ⟨#[]⟩, .int .i64 0, .int .i64 0, .int .i64 0, .bool false, .int .i64 0, .int .i64 0, .string ⟨#[]⟩, .int .i64 0, .int .i64 0, .bool false, .int .i64 0, .slice none 0 0, .int .i64 0, .int .i64 0] 36) = W1 at *
  refine (zwords_any line W1 (by omega)).mono ?_
  rintro r2 W2 ⟨⟨v, rfl, hv⟩, b2⟩
  have er2 := blk_below er b2
  have eg2 := blk_below eg b2
  have B2 := chain2 b1 b2
  have hz2 := B2.size
  have hr2 := lt_of_block er2
  clear b1 b2 eg er
  rw [hE] at ⊢
  rw [hL] at hv
  obtain ⟨b, off, c, hv', hlc, hcm, hc, hx⟩ := hv.at 0 (by simp)
  simp only [Nat.add_zero, List.getElem_cons_zero] at hc hx
  subst hv'
  unfold maxLen at hcm
  rw [show cancelB = ⟨#[99, 97, 110, 99, 101, 108]⟩ from rfl] at hc
  simp only [List.length_cons] at hlc ⊢
  obtain ⟨n, hn⟩ : ∃ n, R.length + 1 = n := ⟨_, rfl⟩
  rw [hn] at hlc ⊢
  have hnn : ¬ (n : Int) = 2 := by omega
  have hn0 : (0 : Int) < (n : Int) := by omega
  have hr := rowOf_is (n := 18) er2 rfl
  have e4 := setRow_heap _ _ _ #[.int .i64 0, .int .i64 0, .int .i64 0, .string ⟨#[]⟩, .int .i64 0, .int .i64 0, .int .i64 0, .bool false, .int .i64 0, .int .i64 0, .string ⟨#[]⟩, .int .i64 0, .int .i64 0, .bool false, .int .i64 0, .slice none 0 0, .int .i64 0, .int .i64 0] _ _ er2
  have b4 := below_rowJ (g := w.heap.size + 1) B2 (by omega) #[.int .i64 0, .int .i64 0, .int .i64 0, .string ⟨#[]⟩, .int .i64 0, .int .i64 0, .int .i64 0, .bool false, .int .i64 0, .int .i64 0, .string ⟨#[]⟩, .int .i64 0, .int .i64 0, .bool false, .int .i64 0, .slice none 0 0, .int .i64 0, .int .i64 0]
  clear er2 eg2
  go_wp2
  exact bodyPost_ret (results_cell_tmp Tryd.results9 _ _ (w.heap.size + 1) _ _ _ _ (by rfl) e4 Tryd.underlying36 (by rfl) info_refAsk) rfl ⟨⟨.slice none 0 0, rfl, Row1.nil _⟩, b4⟩
set_option maxHeartbeats 6400000 in
theorem jparse_badlock (who line : ByteArray) (g : Gd) (la : Option Addr) (ln lc : Nat) (w : World) (hwho : who.size ≤ 1000000000) (hline : line.size ≤ 1000000000) (hE : wordsE line = 0) (x1 : ByteArray) (hL : wordsL line = lockB :: [x1]) (he : ¬ lockE x1 = 0) :
    Calls Tryd.prog 9 #[.string who, .string line, .agg #[.int .i64 g.zones, .int .i64 g.hours, .slice la ln lc, .int .i64 g.low, .int .i64 g.high]] w fun r w' => (∃ q, r = .returned (.tuple #[.agg (askV (ak0) q), .int .i64 (lockE x1)]) ∧ Ints w' q (ak0).bq) ∧ Below w.heap.size w w' := by
  have b1 := alloc2_below w (Obj.cells #[.int .i64 g.zones, .int .i64 g.hours, .slice la ln lc, .int .i64 g.low, .int .i64 g.high] 24) (Obj.cells #[.int .i64 0, .int .i64 0, .int .i64 0, .string ⟨#[]⟩, .int .i64 0, .int .i64 0, .int .i64 0, .bool false, .int .i64 0, .int .i64 0, .string ⟨#[]⟩, .int .i64 0, .int .i64 0, .bool false, .int .i64 0, .slice none 0 0, .int .i64 0, .int .i64 0] 36)
  have eg : ((w.alloc (Obj.cells #[.int .i64 g.zones, .int .i64 g.hours, .slice la ln lc, .int .i64 g.low, .int .i64 g.high] 24)).alloc (Obj.cells #[.int .i64 0, .int .i64 0, .int .i64 0, .string ⟨#[]⟩, .int .i64 0, .int .i64 0, .int .i64 0, .bool false, .int .i64 0, .int .i64 0, .string ⟨#[]⟩, .int .i64 0, .int .i64 0, .bool false, .int .i64 0, .slice none 0 0, .int .i64 0, .int .i64 0] 36)).heap[w.heap.size]? = some (Obj.cells #[.int .i64 g.zones, .int .i64 g.hours, .slice la ln lc, .int .i64 g.low, .int .i64 g.high] 24 (0, 0)) := blk_below (heap_alloc_last w _) ((Below.refl _ _).alloc (Nat.le_refl _) _)
  have er : ((w.alloc (Obj.cells #[.int .i64 g.zones, .int .i64 g.hours, .slice la ln lc, .int .i64 g.low, .int .i64 g.high] 24)).alloc (Obj.cells #[.int .i64 0, .int .i64 0, .int .i64 0, .string ⟨#[]⟩, .int .i64 0, .int .i64 0, .int .i64 0, .bool false, .int .i64 0, .int .i64 0, .string ⟨#[]⟩, .int .i64 0, .int .i64 0, .bool false, .int .i64 0, .slice none 0 0, .int .i64 0, .int .i64 0] 36)).heap[w.heap.size + 1]? = some (Obj.cells #[.int .i64 0, .int .i64 0, .int .i64 0, .string ⟨#[]⟩, .int .i64 0, .int .i64 0, .int .i64 0, .bool false, .int .i64 0, .int .i64 0, .string ⟨#[]⟩, .int .i64 0, .int .i64 0, .bool false, .int .i64 0, .slice none 0 0, .int .i64 0, .int .i64 0] 36 (0, 0)) := heap_alloc2_new _ _ _
  go_enter Tryd.func9, Tryd.ntmps9
  go_wp2_with fail
  generalize (w.alloc (Obj.cells #[.int .i64 g.zones, .int .i64 g.hours, .slice la ln lc, .int .i64 g.low, .int .i64 g.high] 24)).alloc (Obj.cells #[.int .i64 0, .int .i64 0, .int .i64 0, .string ⟨#[]⟩, .int .i64 0, .int .i64 0, .int .i64 0, .bool false, .int .i64 0, .int .i64 0, .string ⟨#[]⟩, .int .i64 0, .int .i64 0, .bool false, .int .i64 0, .slice none 0 0, .int .i64 0, .int .i64 0] 36) = W1 at *
  refine (zwords_any line W1 (by omega)).mono ?_
  rintro r2 W2 ⟨⟨v, rfl, hv⟩, b2⟩
  have er2 := blk_below er b2
  have eg2 := blk_below eg b2
  have B2 := chain2 b1 b2
  have hz2 := B2.size
  have hr2 := lt_of_block er2
  clear b1 b2 eg er
  rw [hE] at ⊢
  rw [hL] at hv
  obtain ⟨b, off, c, hv', hlc, hcm, hc, hx⟩ := hv.at 0 (by simp)
  simp only [Nat.add_zero, List.getElem_cons_zero] at hc hx
  subst hv'
  unfold maxLen at hcm
  rw [show lockB = ⟨#[108, 111, 99, 107]⟩ from rfl] at hc
  have hsz : ∀ y ∈ [x1], y.size ≤ 200 := fun y hy => words_small hE (by rw [hL]; simp at hy ⊢; right; exact hy)
  have s1 : x1.size ≤ 200 := hsz x1 (by simp)
  obtain ⟨b', o', c', e', -, -, hc1, -⟩ := hv.at 1 (by simp)
  simp only [Value.slice.injEq, Option.some.injEq, Addr.mk.injEq, and_true] at e'
  obtain ⟨⟨rfl, rfl⟩, -⟩ := e'
  simp only [List.getElem_cons_succ, List.getElem_cons_zero] at hc1
  simp only [List.length_cons, List.length_nil, Nat.zero_add, Nat.reduceAdd] at hlc ⊢
  have hN := fun X => jnumber_any x1 1 1000000000 92 X (by omega) (by omega)
  have hnE : lockE x1 = numF x1 1 1000000000 92 := by unfold lockE orE; rw [if_pos rfl]
  clear hv hsz hx
  have HE := hid hnE
  rw [hnE] at he
  have he' : (numF x1 1 1000000000 92 != 0) = true := by simp [he]
  generalize hgen : numF x1 1 1000000000 92 = EE at *
  go_wp2_with fail
  refine (hN W2).mono ?_
  rintro r3 W3 ⟨rfl, b3⟩
  have er3 := blk_below er2 b3
  have B3 := chain2 B2 b3
  have hr := rowOf_is (n := 18) er3 rfl
  have e4 := setRow_heap _ _ _ #[.int .i64 0, .int .i64 0, .int .i64 0, .string ⟨#[]⟩, .int .i64 0, .int .i64 0, .int .i64 0, .bool false, .int .i64 0, .int .i64 0, .string ⟨#[]⟩, .int .i64 0, .int .i64 0, .bool false, .int .i64 0, .slice none 0 0, .int .i64 0, .int .i64 0] _ _ er3
  have b4 := below_rowJ (g := w.heap.size + 1) B3 (by omega) #[.int .i64 0, .int .i64 0, .int .i64 0, .string ⟨#[]⟩, .int .i64 0, .int .i64 0, .int .i64 0, .bool false, .int .i64 0, .int .i64 0, .string ⟨#[]⟩, .int .i64 0, .int .i64 0, .bool false, .int .i64 0, .slice none 0 0, .int .i64 0, .int .i64 0]
  clear er2 eg2 er3 hnE
  go_wp2
  exact bodyPost_ret (results_cell_tmp Tryd.results9 _ _ (w.heap.size + 1) _ _ _ _ (by rfl) e4 Tryd.underlying36 (by rfl) info_refAsk) rfl ⟨⟨.slice none 0 0, by rw [HE.out]; rfl, Row1.nil _⟩, b4⟩
set_option maxHeartbeats 6400000 in
theorem jparse_oklock (who line : ByteArray) (g : Gd) (la : Option Addr) (ln lc : Nat) (w : World) (hwho : who.size ≤ 1000000000) (hline : line.size ≤ 1000000000) (hE : wordsE line = 0) (x1 : ByteArray) (hL : wordsL line = lockB :: [x1]) (he : lockE x1 = 0) :
    Calls Tryd.prog 9 #[.string who, .string line, .agg #[.int .i64 g.zones, .int .i64 g.hours, .slice la ln lc, .int .i64 g.low, .int .i64 g.high]] w fun r w' => (∃ q, r = .returned (.tuple #[.agg (askV (lockA x1) q), .int .i64 (0)]) ∧ Ints w' q (lockA x1).bq) ∧ Below w.heap.size w w' := by
  have b1 := alloc2_below w (Obj.cells #[.int .i64 g.zones, .int .i64 g.hours, .slice la ln lc, .int .i64 g.low, .int .i64 g.high] 24) (Obj.cells #[.int .i64 0, .int .i64 0, .int .i64 0, .string ⟨#[]⟩, .int .i64 0, .int .i64 0, .int .i64 0, .bool false, .int .i64 0, .int .i64 0, .string ⟨#[]⟩, .int .i64 0, .int .i64 0, .bool false, .int .i64 0, .slice none 0 0, .int .i64 0, .int .i64 0] 36)
  have eg : ((w.alloc (Obj.cells #[.int .i64 g.zones, .int .i64 g.hours, .slice la ln lc, .int .i64 g.low, .int .i64 g.high] 24)).alloc (Obj.cells #[.int .i64 0, .int .i64 0, .int .i64 0, .string ⟨#[]⟩, .int .i64 0, .int .i64 0, .int .i64 0, .bool false, .int .i64 0, .int .i64 0, .string ⟨#[]⟩, .int .i64 0, .int .i64 0, .bool false, .int .i64 0, .slice none 0 0, .int .i64 0, .int .i64 0] 36)).heap[w.heap.size]? = some (Obj.cells #[.int .i64 g.zones, .int .i64 g.hours, .slice la ln lc, .int .i64 g.low, .int .i64 g.high] 24 (0, 0)) := blk_below (heap_alloc_last w _) ((Below.refl _ _).alloc (Nat.le_refl _) _)
  have er : ((w.alloc (Obj.cells #[.int .i64 g.zones, .int .i64 g.hours, .slice la ln lc, .int .i64 g.low, .int .i64 g.high] 24)).alloc (Obj.cells #[.int .i64 0, .int .i64 0, .int .i64 0, .string ⟨#[]⟩, .int .i64 0, .int .i64 0, .int .i64 0, .bool false, .int .i64 0, .int .i64 0, .string ⟨#[]⟩, .int .i64 0, .int .i64 0, .bool false, .int .i64 0, .slice none 0 0, .int .i64 0, .int .i64 0] 36)).heap[w.heap.size + 1]? = some (Obj.cells #[.int .i64 0, .int .i64 0, .int .i64 0, .string ⟨#[]⟩, .int .i64 0, .int .i64 0, .int .i64 0, .bool false, .int .i64 0, .int .i64 0, .string ⟨#[]⟩, .int .i64 0, .int .i64 0, .bool false, .int .i64 0, .slice none 0 0, .int .i64 0, .int .i64 0] 36 (0, 0)) := heap_alloc2_new _ _ _
  go_enter Tryd.func9, Tryd.ntmps9
  go_wp2_with fail
  generalize (w.alloc (Obj.cells #[.int .i64 g.zones, .int .i64 g.hours, .slice la ln lc, .int .i64 g.low, .int .i64 g.high] 24)).alloc (Obj.cells #[.int .i64 0, .int .i64 0, .int .i64 0, .string ⟨#[]⟩, .int .i64 0, .int .i64 0, .int .i64 0, .bool false, .int .i64 0, .int .i64 0, .string ⟨#[]⟩, .int .i64 0, .int .i64 0, .bool false, .int .i64 0, .slice none 0 0, .int .i64 0, .int .i64 0] 36) = W1 at *
  refine (zwords_any line W1 (by omega)).mono ?_
  rintro r2 W2 ⟨⟨v, rfl, hv⟩, b2⟩
  have er2 := blk_below er b2
  have eg2 := blk_below eg b2
  have B2 := chain2 b1 b2
  have hz2 := B2.size
  have hr2 := lt_of_block er2
  clear b1 b2 eg er
  rw [hE] at ⊢
  rw [hL] at hv
  obtain ⟨b, off, c, hv', hlc, hcm, hc, hx⟩ := hv.at 0 (by simp)
  simp only [Nat.add_zero, List.getElem_cons_zero] at hc hx
  subst hv'
  unfold maxLen at hcm
  rw [show lockB = ⟨#[108, 111, 99, 107]⟩ from rfl] at hc
  have hsz : ∀ y ∈ [x1], y.size ≤ 200 := fun y hy => words_small hE (by rw [hL]; simp at hy ⊢; right; exact hy)
  have s1 : x1.size ≤ 200 := hsz x1 (by simp)
  obtain ⟨b', o', c', e', -, -, hc1, -⟩ := hv.at 1 (by simp)
  simp only [Value.slice.injEq, Option.some.injEq, Addr.mk.injEq, and_true] at e'
  obtain ⟨⟨rfl, rfl⟩, -⟩ := e'
  simp only [List.getElem_cons_succ, List.getElem_cons_zero] at hc1
  simp only [List.length_cons, List.length_nil, Nat.zero_add, Nat.reduceAdd] at hlc ⊢
  have hN := fun X => jnumber_any x1 1 1000000000 92 X (by omega) (by omega)
  have hnE : lockE x1 = numF x1 1 1000000000 92 := by unfold lockE orE; rw [if_pos rfl]
  clear hv hsz hx
  rw [hnE] at he
  have hV : numV0 x1 1 1000000000 92 = numR x1 := by unfold numV0; rw [he, if_pos rfl]
  rw [he, hV] at hN
  clear hV hnE he
  go_wp2_with fail
  refine (hN W2).mono ?_
  rintro r3 W3 ⟨rfl, b3⟩
  have er3 := blk_below er2 b3
  have B3 := chain2 B2 b3
  have hr := rowOf_is (n := 18) er3 rfl
  have e4 := setRow_heap _ _ _ #[.int .i64 1, .int .i64 (numR x1), .int .i64 0, .string ⟨#[]⟩, .int .i64 0, .int .i64 0, .int .i64 0, .bool false, .int .i64 0, .int .i64 0, .string ⟨#[]⟩, .int .i64 0, .int .i64 0, .bool false, .int .i64 0, .slice none 0 0, .int .i64 0, .int .i64 0] _ _ er3
  have b4 := below_rowJ (g := w.heap.size + 1) B3 (by omega) #[.int .i64 1, .int .i64 (numR x1), .int .i64 0, .string ⟨#[]⟩, .int .i64 0, .int .i64 0, .int .i64 0, .bool false, .int .i64 0, .int .i64 0, .string ⟨#[]⟩, .int .i64 0, .int .i64 0, .bool false, .int .i64 0, .slice none 0 0, .int .i64 0, .int .i64 0]
  clear er2 eg2 er3
  go_wp2
  exact bodyPost_ret (results_cell_tmp Tryd.results9 _ _ (w.heap.size + 1) _ _ _ _ (by rfl) e4 Tryd.underlying36 (by rfl) info_refAsk) rfl ⟨⟨.slice none 0 0, rfl, Row1.nil _⟩, b4⟩
set_option maxHeartbeats 6400000 in
theorem jparse_badcancel (who line : ByteArray) (g : Gd) (la : Option Addr) (ln lc : Nat) (w : World) (hwho : who.size ≤ 1000000000) (hline : line.size ≤ 1000000000) (hE : wordsE line = 0) (x1 : ByteArray) (hL : wordsL line = cancelB :: [x1]) (he : ¬ cancelE x1 = 0) :
    Calls Tryd.prog 9 #[.string who, .string line, .agg #[.int .i64 g.zones, .int .i64 g.hours, .slice la ln lc, .int .i64 g.low, .int .i64 g.high]] w fun r w' => (∃ q, r = .returned (.tuple #[.agg (askV (ak0) q), .int .i64 (cancelE x1)]) ∧ Ints w' q (ak0).bq) ∧ Below w.heap.size w w' := by
  have b1 := alloc2_below w (Obj.cells #[.int .i64 g.zones, .int .i64 g.hours, .slice la ln lc, .int .i64 g.low, .int .i64 g.high] 24) (Obj.cells #[.int .i64 0, .int .i64 0, .int .i64 0, .string ⟨#[]⟩, .int .i64 0, .int .i64 0, .int .i64 0, .bool false, .int .i64 0, .int .i64 0, .string ⟨#[]⟩, .int .i64 0, .int .i64 0, .bool false, .int .i64 0, .slice none 0 0, .int .i64 0, .int .i64 0] 36)
  have eg : ((w.alloc (Obj.cells #[.int .i64 g.zones, .int .i64 g.hours, .slice la ln lc, .int .i64 g.low, .int .i64 g.high] 24)).alloc (Obj.cells #[.int .i64 0, .int .i64 0, .int .i64 0, .string ⟨#[]⟩, .int .i64 0, .int .i64 0, .int .i64 0, .bool false, .int .i64 0, .int .i64 0, .string ⟨#[]⟩, .int .i64 0, .int .i64 0, .bool false, .int .i64 0, .slice none 0 0, .int .i64 0, .int .i64 0] 36)).heap[w.heap.size]? = some (Obj.cells #[.int .i64 g.zones, .int .i64 g.hours, .slice la ln lc, .int .i64 g.low, .int .i64 g.high] 24 (0, 0)) := blk_below (heap_alloc_last w _) ((Below.refl _ _).alloc (Nat.le_refl _) _)
  have er : ((w.alloc (Obj.cells #[.int .i64 g.zones, .int .i64 g.hours, .slice la ln lc, .int .i64 g.low, .int .i64 g.high] 24)).alloc (Obj.cells #[.int .i64 0, .int .i64 0, .int .i64 0, .string ⟨#[]⟩, .int .i64 0, .int .i64 0, .int .i64 0, .bool false, .int .i64 0, .int .i64 0, .string ⟨#[]⟩, .int .i64 0, .int .i64 0, .bool false, .int .i64 0, .slice none 0 0, .int .i64 0, .int .i64 0] 36)).heap[w.heap.size + 1]? = some (Obj.cells #[.int .i64 0, .int .i64 0, .int .i64 0, .string ⟨#[]⟩, .int .i64 0, .int .i64 0, .int .i64 0, .bool false, .int .i64 0, .int .i64 0, .string ⟨#[]⟩, .int .i64 0, .int .i64 0, .bool false, .int .i64 0, .slice none 0 0, .int .i64 0, .int .i64 0] 36 (0, 0)) := heap_alloc2_new _ _ _
  go_enter Tryd.func9, Tryd.ntmps9
  go_wp2_with fail
  generalize (w.alloc (Obj.cells #[.int .i64 g.zones, .int .i64 g.hours, .slice la ln lc, .int .i64 g.low, .int .i64 g.high] 24)).alloc (Obj.cells #[.int .i64 0, .int .i64 0, .int .i64 0, .string ⟨#[]⟩, .int .i64 0, .int .i64 0, .int .i64 0, .bool false, .int .i64 0, .int .i64 0, .string ⟨#[]⟩, .int .i64 0, .int .i64 0, .bool false, .int .i64 0, .slice none 0 0, .int .i64 0, .int .i64 0] 36) = W1 at *
  refine (zwords_any line W1 (by omega)).mono ?_
  rintro r2 W2 ⟨⟨v, rfl, hv⟩, b2⟩
  have er2 := blk_below er b2
  have eg2 := blk_below eg b2
  have B2 := chain2 b1 b2
  have hz2 := B2.size
  have hr2 := lt_of_block er2
  clear b1 b2 eg er
  rw [hE] at ⊢
  rw [hL] at hv
  obtain ⟨b, off, c, hv', hlc, hcm, hc, hx⟩ := hv.at 0 (by simp)
  simp only [Nat.add_zero, List.getElem_cons_zero] at hc hx
  subst hv'
  unfold maxLen at hcm
  rw [show cancelB = ⟨#[99, 97, 110, 99, 101, 108]⟩ from rfl] at hc
  have hsz : ∀ y ∈ [x1], y.size ≤ 200 := fun y hy => words_small hE (by rw [hL]; simp at hy ⊢; right; exact hy)
  have s1 : x1.size ≤ 200 := hsz x1 (by simp)
  obtain ⟨b', o', c', e', -, -, hc1, -⟩ := hv.at 1 (by simp)
  simp only [Value.slice.injEq, Option.some.injEq, Addr.mk.injEq, and_true] at e'
  obtain ⟨⟨rfl, rfl⟩, -⟩ := e'
  simp only [List.getElem_cons_succ, List.getElem_cons_zero] at hc1
  simp only [List.length_cons, List.length_nil, Nat.zero_add, Nat.reduceAdd] at hlc ⊢
  have hN := fun X => jnumber_any x1 1 1000 92 X (by omega) (by omega)
  have hnE : cancelE x1 = numF x1 1 1000 92 := by unfold cancelE orE; rw [if_pos rfl]
  clear hv hsz hx
  have HE := hid hnE
  rw [hnE] at he
  have he' : (numF x1 1 1000 92 != 0) = true := by simp [he]
  generalize hgen : numF x1 1 1000 92 = EE at *
  go_wp2_with fail
  refine (hN W2).mono ?_
  rintro r3 W3 ⟨rfl, b3⟩
  have er3 := blk_below er2 b3
  have B3 := chain2 B2 b3
  have hr := rowOf_is (n := 18) er3 rfl
  have e4 := setRow_heap _ _ _ #[.int .i64 0, .int .i64 0, .int .i64 0, .string ⟨#[]⟩, .int .i64 0, .int .i64 0, .int .i64 0, .bool false, .int .i64 0, .int .i64 0, .string ⟨#[]⟩, .int .i64 0, .int .i64 0, .bool false, .int .i64 0, .slice none 0 0, .int .i64 0, .int .i64 0] _ _ er3
  have b4 := below_rowJ (g := w.heap.size + 1) B3 (by omega) #[.int .i64 0, .int .i64 0, .int .i64 0, .string ⟨#[]⟩, .int .i64 0, .int .i64 0, .int .i64 0, .bool false, .int .i64 0, .int .i64 0, .string ⟨#[]⟩, .int .i64 0, .int .i64 0, .bool false, .int .i64 0, .slice none 0 0, .int .i64 0, .int .i64 0]
  clear er2 eg2 er3 hnE
  go_wp2
  exact bodyPost_ret (results_cell_tmp Tryd.results9 _ _ (w.heap.size + 1) _ _ _ _ (by rfl) e4 Tryd.underlying36 (by rfl) info_refAsk) rfl ⟨⟨.slice none 0 0, by rw [HE.out]; rfl, Row1.nil _⟩, b4⟩
set_option maxHeartbeats 6400000 in
theorem jparse_okcancel (who line : ByteArray) (g : Gd) (la : Option Addr) (ln lc : Nat) (w : World) (hwho : who.size ≤ 1000000000) (hline : line.size ≤ 1000000000) (hE : wordsE line = 0) (x1 : ByteArray) (hL : wordsL line = cancelB :: [x1]) (he : cancelE x1 = 0) :
    Calls Tryd.prog 9 #[.string who, .string line, .agg #[.int .i64 g.zones, .int .i64 g.hours, .slice la ln lc, .int .i64 g.low, .int .i64 g.high]] w fun r w' => (∃ q, r = .returned (.tuple #[.agg (askV (cancelA x1) q), .int .i64 (0)]) ∧ Ints w' q (cancelA x1).bq) ∧ Below w.heap.size w w' := by
  have b1 := alloc2_below w (Obj.cells #[.int .i64 g.zones, .int .i64 g.hours, .slice la ln lc, .int .i64 g.low, .int .i64 g.high] 24) (Obj.cells #[.int .i64 0, .int .i64 0, .int .i64 0, .string ⟨#[]⟩, .int .i64 0, .int .i64 0, .int .i64 0, .bool false, .int .i64 0, .int .i64 0, .string ⟨#[]⟩, .int .i64 0, .int .i64 0, .bool false, .int .i64 0, .slice none 0 0, .int .i64 0, .int .i64 0] 36)
  have eg : ((w.alloc (Obj.cells #[.int .i64 g.zones, .int .i64 g.hours, .slice la ln lc, .int .i64 g.low, .int .i64 g.high] 24)).alloc (Obj.cells #[.int .i64 0, .int .i64 0, .int .i64 0, .string ⟨#[]⟩, .int .i64 0, .int .i64 0, .int .i64 0, .bool false, .int .i64 0, .int .i64 0, .string ⟨#[]⟩, .int .i64 0, .int .i64 0, .bool false, .int .i64 0, .slice none 0 0, .int .i64 0, .int .i64 0] 36)).heap[w.heap.size]? = some (Obj.cells #[.int .i64 g.zones, .int .i64 g.hours, .slice la ln lc, .int .i64 g.low, .int .i64 g.high] 24 (0, 0)) := blk_below (heap_alloc_last w _) ((Below.refl _ _).alloc (Nat.le_refl _) _)
  have er : ((w.alloc (Obj.cells #[.int .i64 g.zones, .int .i64 g.hours, .slice la ln lc, .int .i64 g.low, .int .i64 g.high] 24)).alloc (Obj.cells #[.int .i64 0, .int .i64 0, .int .i64 0, .string ⟨#[]⟩, .int .i64 0, .int .i64 0, .int .i64 0, .bool false, .int .i64 0, .int .i64 0, .string ⟨#[]⟩, .int .i64 0, .int .i64 0, .bool false, .int .i64 0, .slice none 0 0, .int .i64 0, .int .i64 0] 36)).heap[w.heap.size + 1]? = some (Obj.cells #[.int .i64 0, .int .i64 0, .int .i64 0, .string ⟨#[]⟩, .int .i64 0, .int .i64 0, .int .i64 0, .bool false, .int .i64 0, .int .i64 0, .string ⟨#[]⟩, .int .i64 0, .int .i64 0, .bool false, .int .i64 0, .slice none 0 0, .int .i64 0, .int .i64 0] 36 (0, 0)) := heap_alloc2_new _ _ _
  go_enter Tryd.func9, Tryd.ntmps9
  go_wp2_with fail
  generalize (w.alloc (Obj.cells #[.int .i64 g.zones, .int .i64 g.hours, .slice la ln lc, .int .i64 g.low, .int .i64 g.high] 24)).alloc (Obj.cells #[.int .i64 0, .int .i64 0, .int .i64 0, .string ⟨#[]⟩, .int .i64 0, .int .i64 0, .int .i64 0, .bool false, .int .i64 0, .int .i64 0, .string ⟨#[]⟩, .int .i64 0, .int .i64 0, .bool false, .int .i64 0, .slice none 0 0, .int .i64 0, .int .i64 0] 36) = W1 at *
  refine (zwords_any line W1 (by omega)).mono ?_
  rintro r2 W2 ⟨⟨v, rfl, hv⟩, b2⟩
  have er2 := blk_below er b2
  have eg2 := blk_below eg b2
  have B2 := chain2 b1 b2
  have hz2 := B2.size
  have hr2 := lt_of_block er2
  clear b1 b2 eg er
  rw [hE] at ⊢
  rw [hL] at hv
  obtain ⟨b, off, c, hv', hlc, hcm, hc, hx⟩ := hv.at 0 (by simp)
  simp only [Nat.add_zero, List.getElem_cons_zero] at hc hx
  subst hv'
  unfold maxLen at hcm
  rw [show cancelB = ⟨#[99, 97, 110, 99, 101, 108]⟩ from rfl] at hc
  have hsz : ∀ y ∈ [x1], y.size ≤ 200 := fun y hy => words_small hE (by rw [hL]; simp at hy ⊢; right; exact hy)
  have s1 : x1.size ≤ 200 := hsz x1 (by simp)
  obtain ⟨b', o', c', e', -, -, hc1, -⟩ := hv.at 1 (by simp)
  simp only [Value.slice.injEq, Option.some.injEq, Addr.mk.injEq, and_true] at e'
  obtain ⟨⟨rfl, rfl⟩, -⟩ := e'
  simp only [List.getElem_cons_succ, List.getElem_cons_zero] at hc1
  simp only [List.length_cons, List.length_nil, Nat.zero_add, Nat.reduceAdd] at hlc ⊢
  have hN := fun X => jnumber_any x1 1 1000 92 X (by omega) (by omega)
  have hnE : cancelE x1 = numF x1 1 1000 92 := by unfold cancelE orE; rw [if_pos rfl]
  clear hv hsz hx
  rw [hnE] at he
  have hV : numV0 x1 1 1000 92 = numR x1 := by unfold numV0; rw [he, if_pos rfl]
  rw [he, hV] at hN
  clear hV hnE he
  go_wp2_with fail
  refine (hN W2).mono ?_
  rintro r3 W3 ⟨rfl, b3⟩
  have er3 := blk_below er2 b3
  have B3 := chain2 B2 b3
  have hr := rowOf_is (n := 18) er3 rfl
  have e4 := setRow_heap _ _ _ #[.int .i64 4, .int .i64 0, .int .i64 (numR x1), .string ⟨#[]⟩, .int .i64 0, .int .i64 0, .int .i64 0, .bool false, .int .i64 0, .int .i64 0, .string ⟨#[]⟩, .int .i64 0, .int .i64 0, .bool false, .int .i64 0, .slice none 0 0, .int .i64 0, .int .i64 0] _ _ er3
  have b4 := below_rowJ (g := w.heap.size + 1) B3 (by omega) #[.int .i64 4, .int .i64 0, .int .i64 (numR x1), .string ⟨#[]⟩, .int .i64 0, .int .i64 0, .int .i64 0, .bool false, .int .i64 0, .int .i64 0, .string ⟨#[]⟩, .int .i64 0, .int .i64 0, .bool false, .int .i64 0, .slice none 0 0, .int .i64 0, .int .i64 0]
  clear er2 eg2 er3
  go_wp2
  exact bodyPost_ret (results_cell_tmp Tryd.results9 _ _ (w.heap.size + 1) _ _ _ _ (by rfl) e4 Tryd.underlying36 (by rfl) info_refAsk) rfl ⟨⟨.slice none 0 0, rfl, Row1.nil _⟩, b4⟩
end Go.Proofs.YthhikmlbpagknaaDoor
