/- order: Parse, refused by its words. -/
import Derived.Test.YthhikmlbpagknaaDoorKPar
namespace Go.Proofs.YthhikmlbpagknaaDoor
open Go.RowKit
set_option linter.unusedVariables false
set_option maxRecDepth 100000
set_option linter.unusedSimpArgs false

theorem below_row {B g : Nat} {w0 w : World} (hb : Below B w0 w) (hBg : B ≤ g) (cs : Array Value) : Below B w0 (w.setRow g cs) :=
  ⟨hb.os, hb.tape, hb.output, by rw [size_setRow]; exact hb.size, fun i hi => by rw [setRow_other _ _ _ _ (by omega)]; exact hb.block i hi⟩
theorem words_small {line x : ByteArray} (h : wordsE line = 0) (hx : x ∈ wordsL line) : x.size ≤ 200 := by
  rw [wordsL_ok h] at hx
  have h1 := (parts_size 32 line).2 x hx
  have h2 : ¬ 200 < line.size := fun k => by rw [wordsE_size k] at h; omega
  omega
set_option maxHeartbeats 6400000 in
theorem parse_words (who line : ByteArray) (g : Gd) (la : Option Addr) (ln lc : Nat) (w : World) (hm : Mx w) (hwho : who.size ≤ 1000000000) (hline : line.size ≤ 1000000000) (n : Int) (hE : wordsE line = n) (hn : n ≠ 0) :
    Calls Tryd.prog 8 #[.string who, .string line, .agg #[.int .i64 g.zones, .int .i64 g.hours, .slice la ln lc, .int .i64 g.low, .int .i64 g.high]] w fun r w' => (∃ q, r = .returned (.tuple #[.agg (askV (ak0) q), .int .i64 (n)]) ∧ Ints w' q (ak0).bq) ∧ Below w.heap.size w w' := by
  have b1 := alloc2_below w (Obj.cells #[.int .i64 g.zones, .int .i64 g.hours, .slice la ln lc, .int .i64 g.low, .int .i64 g.high] 24) (Obj.cells #[.int .i64 0, .int .i64 0, .int .i64 0, .string ⟨#[]⟩, .int .i64 0, .int .i64 0, .int .i64 0, .bool false, .int .i64 0, .int .i64 0, .string ⟨#[]⟩, .int .i64 0, .int .i64 0, .bool false, .int .i64 0, .slice none 0 0, .int .i64 0, .int .i64 0] 32)
  have eg : ((w.alloc (Obj.cells #[.int .i64 g.zones, .int .i64 g.hours, .slice la ln lc, .int .i64 g.low, .int .i64 g.high] 24)).alloc (Obj.cells #[.int .i64 0, .int .i64 0, .int .i64 0, .string ⟨#[]⟩, .int .i64 0, .int .i64 0, .int .i64 0, .bool false, .int .i64 0, .int .i64 0, .string ⟨#[]⟩, .int .i64 0, .int .i64 0, .bool false, .int .i64 0, .slice none 0 0, .int .i64 0, .int .i64 0] 32)).heap[w.heap.size]? = some (Obj.cells #[.int .i64 g.zones, .int .i64 g.hours, .slice la ln lc, .int .i64 g.low, .int .i64 g.high] 24 (0, 0)) := blk_below (heap_alloc_last w _) ((Below.refl _ _).alloc (Nat.le_refl _) _)
  have er : ((w.alloc (Obj.cells #[.int .i64 g.zones, .int .i64 g.hours, .slice la ln lc, .int .i64 g.low, .int .i64 g.high] 24)).alloc (Obj.cells #[.int .i64 0, .int .i64 0, .int .i64 0, .string ⟨#[]⟩, .int .i64 0, .int .i64 0, .int .i64 0, .bool false, .int .i64 0, .int .i64 0, .string ⟨#[]⟩, .int .i64 0, .int .i64 0, .bool false, .int .i64 0, .slice none 0 0, .int .i64 0, .int .i64 0] 32)).heap[w.heap.size + 1]? = some (Obj.cells #[.int .i64 0, .int .i64 0, .int .i64 0, .string ⟨#[]⟩, .int .i64 0, .int .i64 0, .int .i64 0, .bool false, .int .i64 0, .int .i64 0, .string ⟨#[]⟩, .int .i64 0, .int .i64 0, .bool false, .int .i64 0, .slice none 0 0, .int .i64 0, .int .i64 0] 32 (0, 0)) := heap_alloc2_new _ _ _
  go_enter Tryd.func8, Tryd.ntmps8
  go_wp2_with fail
  generalize (w.alloc (Obj.cells #[.int .i64 g.zones, .int .i64 g.hours, .slice la ln lc, .int .i64 g.low, .int .i64 g.high] 24)).alloc (Obj.cells #[.int .i64 0, .int .i64 0, .int .i64 0, .string ⟨#[]⟩, .int .i64 0, .int .i64 0, .int .i64 0, .bool false, .int .i64 0, .int .i64 0, .string ⟨#[]⟩, .int .i64 0, .int .i64 0, .bool false, .int .i64 0, .slice none 0 0, .int .i64 0, .int .i64 0] 32) = W1 at *
  have hm1 := hm.below b1
  refine (words_any line W1 (by omega) hm1).mono ?_
  rintro r2 W2 ⟨⟨v, rfl, hv⟩, b2⟩
  have er2 := blk_below er b2
  have eg2 := blk_below eg b2
  have B2 := chain2 b1 b2
  have hm2 := hm1.below b2
  have hz2 := B2.size
  have hr2 := lt_of_block er2
  clear hm hm1 b1 b2 eg er
  rw [hE] at ⊢
  have hn' : (n != 0) = true := by simp [hn]
  obtain ⟨va, vc, hv', -, -⟩ := hv.slice
  subst hv'
  clear hv
  have hr := rowOf_is (n := 18) er2 rfl
  have e4 := setRow_heap _ _ _ #[.int .i64 0, .int .i64 0, .int .i64 0, .string ⟨#[]⟩, .int .i64 0, .int .i64 0, .int .i64 0, .bool false, .int .i64 0, .int .i64 0, .string ⟨#[]⟩, .int .i64 0, .int .i64 0, .bool false, .int .i64 0, .slice none 0 0, .int .i64 0, .int .i64 0] _ _ er2
  have b4 := below_row (g := w.heap.size + 1) B2 (by omega) #[.int .i64 0, .int .i64 0, .int .i64 0, .string ⟨#[]⟩, .int .i64 0, .int .i64 0, .int .i64 0, .bool false, .int .i64 0, .int .i64 0, .string ⟨#[]⟩, .int .i64 0, .int .i64 0, .bool false, .int .i64 0, .slice none 0 0, .int .i64 0, .int .i64 0]
  clear er2 eg2
  go_wp2
  exact bodyPost_ret (results_cell_tmp Tryd.results8 _ _ (w.heap.size + 1) _ _ _ _ (by rfl) e4 Tryd.underlying32 (by rfl) info_Ask) rfl ⟨⟨.slice none 0 0, rfl, Row1.nil _⟩, b4⟩
set_option maxHeartbeats 6400000 in
theorem parse_verb (who line : ByteArray) (g : Gd) (la : Option Addr) (ln lc : Nat) (w : World) (hm : Mx w) (hwho : who.size ≤ 1000000000) (hline : line.size ≤ 1000000000) (hE : wordsE line = 0) (x0 : ByteArray) (R : List ByteArray) (hL : wordsL line = x0 :: R) (h1 : ¬ x0 = lockB) (h2 : ¬ x0 = stepB) (h3 : ¬ x0 = blockB) (h4 : ¬ x0 = cancelB) :
    Calls Tryd.prog 8 #[.string who, .string line, .agg #[.int .i64 g.zones, .int .i64 g.hours, .slice la ln lc, .int .i64 g.low, .int .i64 g.high]] w fun r w' => (∃ q, r = .returned (.tuple #[.agg (askV (ak0) q), .int .i64 (90)]) ∧ Ints w' q (ak0).bq) ∧ Below w.heap.size w w' := by
  have b1 := alloc2_below w (Obj.cells #[.int .i64 g.zones, .int .i64 g.hours, .slice la ln lc, .int .i64 g.low, .int .i64 g.high] 24) (Obj.cells #[.int .i64 0, .int .i64 0, .int .i64 0, .string ⟨#[]⟩, .int .i64 0, .int .i64 0, .int .i64 0, .bool false, .int .i64 0, .int .i64 0, .string ⟨#[]⟩, .int .i64 0, .int .i64 0, .bool false, .int .i64 0, .slice none 0 0, .int .i64 0, .int .i64 0] 32)
  have eg : ((w.alloc (Obj.cells #[.int .i64 g.zones, .int .i64 g.hours, .slice la ln lc, .int .i64 g.low, .int .i64 g.high] 24)).alloc (Obj.cells #[.int .i64 0, .int .i64 0, .int .i64 0, .string ⟨#[]⟩, .int .i64 0, .int .i64 0, .int .i64 0, .bool false, .int .i64 0, .int .i64 0, .string ⟨#[]⟩, .int .i64 0, .int .i64 0, .bool false, .int .i64 0, .slice none 0 0, .int .i64 0, .int .i64 0] 32)).heap[w.heap.size]? = some (Obj.cells #[.int .i64 g.zones, .int .i64 g.hours, .slice la ln lc, .int .i64 g.low, .int .i64 g.high] 24 (0, 0)) := blk_below (heap_alloc_last w _) ((Below.refl _ _).alloc (Nat.le_refl _) _)
  have er : ((w.alloc (Obj.cells #[.int .i64 g.zones, .int .i64 g.hours, .slice la ln lc, .int .i64 g.low, .int .i64 g.high] 24)).alloc (Obj.cells #[.int .i64 0, .int .i64 0, .int .i64 0, .string ⟨#[]⟩, .int .i64 0, .int .i64 0, .int .i64 0, .bool false, .int .i64 0, .int .i64 0, .string ⟨#[]⟩, .int .i64 0, .int .i64 0, .bool false, .int .i64 0, .slice none 0 0, .int .i64 0, .int .i64 0] 32)).heap[w.heap.size + 1]? = some (Obj.cells #[.int .i64 0, .int .i64 0, .int .i64 0, .string ⟨#[]⟩, .int .i64 0, .int .i64 0, .int .i64 0, .bool false, .int .i64 0, .int .i64 0, .string ⟨#[]⟩, .int .i64 0, .int .i64 0, .bool false, .int .i64 0, .slice none 0 0, .int .i64 0, .int .i64 0] 32 (0, 0)) := heap_alloc2_new _ _ _
  go_enter Tryd.func8, Tryd.ntmps8
  go_wp2_with fail
  generalize (w.alloc (Obj.cells #[.int .i64 g.zones, .int .i64 g.hours, .slice la ln lc, .int .i64 g.low, .int .i64 g.high] 24)).alloc (Obj.cells #[.int .i64 0, .int .i64 0, .int .i64 0, .string ⟨#[]⟩, .int .i64 0, .int .i64 0, .int .i64 0, .bool false, .int .i64 0, .int .i64 0, .string ⟨#[]⟩, .int .i64 0, .int .i64 0, .bool false, .int .i64 0, .slice none 0 0, .int .i64 0, .int .i64 0] 32) = W1 at *
  have hm1 := hm.below b1
  refine (words_any line W1 (by omega) hm1).mono ?_
  rintro r2 W2 ⟨⟨v, rfl, hv⟩, b2⟩
  have er2 := blk_below er b2
  have eg2 := blk_below eg b2
  have B2 := chain2 b1 b2
  have hm2 := hm1.below b2
  have hz2 := B2.size
  have hr2 := lt_of_block er2
  clear hm hm1 b1 b2 eg er
  rw [hE] at ⊢
  rw [hL] at hv
  obtain ⟨b, off, c, hv', hlc, hcm, hc, hx⟩ := hv.at 0 (by simp)
  simp only [Nat.add_zero, List.getElem_cons_zero] at hc hx
  subst hv'
  unfold maxLen at hcm
  have hbW := World.block_lt_of_cell? W2 _ hc
  simp only at hbW
  have hK := fun v => kindOf_none x0 h1 h2 h3 h4 v
  clear h1 h2 h3 h4
  simp only [List.length_cons] at hlc ⊢
  obtain ⟨n, hn⟩ : ∃ n, R.length + 1 = n := ⟨_, rfl⟩
  rw [hn] at hlc ⊢
  have hn0 : (0 : Int) < (n : Int) := by have := hn; omega
  go_wp2_with fail
  refine (hK W2).mono ?_
  rintro r3 w3 ⟨rfl, rfl⟩
  go_wp2_with fail
  refine (lineOf_none 0 (.int .i64 0) (.int .i64 0) (.string ⟨#[]⟩) (.int .i64 0) (.int .i64 0) (.int .i64 0) (.bool false) (.int .i64 0) (.int .i64 0) (.string ⟨#[]⟩) (.int .i64 0) (.int .i64 0) (.bool false) (.int .i64 0) (.slice none 0 0) (.int .i64 0) (.int .i64 0) _ (by omega)).mono ?_
  rintro r4 W4 ⟨rfl, hw4⟩
  have b4' : Below w3.heap.size w3 W4 := by rw [hw4]; exact (Below.refl _ _).alloc (Nat.le_refl _) _
  have er4 := blk_below er2 b4'
  have B4 := chain2 B2 b4'
  clear hw4
  have hr := rowOf_is (n := 18) er4 rfl
  have e4 := setRow_heap _ _ _ #[.int .i64 0, .int .i64 0, .int .i64 0, .string ⟨#[]⟩, .int .i64 0, .int .i64 0, .int .i64 0, .bool false, .int .i64 0, .int .i64 0, .string ⟨#[]⟩, .int .i64 0, .int .i64 0, .bool false, .int .i64 0, .slice none 0 0, .int .i64 0, .int .i64 0] _ _ er4
  have b4 := below_row (g := w.heap.size + 1) B4 (by omega) #[.int .i64 0, .int .i64 0, .int .i64 0, .string ⟨#[]⟩, .int .i64 0, .int .i64 0, .int .i64 0, .bool false, .int .i64 0, .int .i64 0, .string ⟨#[]⟩, .int .i64 0, .int .i64 0, .bool false, .int .i64 0, .slice none 0 0, .int .i64 0, .int .i64 0]
  clear er2 eg2 er4
  go_wp2
  exact bodyPost_ret (results_cell_tmp Tryd.results8 _ _ (w.heap.size + 1) _ _ _ _ (by rfl) e4 Tryd.underlying32 (by rfl) info_Ask) rfl ⟨⟨.slice none 0 0, rfl, Row1.nil _⟩, b4⟩
set_option maxHeartbeats 6400000 in
theorem parse_manylock (who line : ByteArray) (g : Gd) (la : Option Addr) (ln lc : Nat) (w : World) (hm : Mx w) (hwho : who.size ≤ 1000000000) (hline : line.size ≤ 1000000000) (hE : wordsE line = 0) (R : List ByteArray) (hL : wordsL line = lockB :: R) (hR : R.length ≠ 1) :
    Calls Tryd.prog 8 #[.string who, .string line, .agg #[.int .i64 g.zones, .int .i64 g.hours, .slice la ln lc, .int .i64 g.low, .int .i64 g.high]] w fun r w' => (∃ q, r = .returned (.tuple #[.agg (askV (ak0) q), .int .i64 (91)]) ∧ Ints w' q (ak0).bq) ∧ Below w.heap.size w w' := by
  have b1 := alloc2_below w (Obj.cells #[.int .i64 g.zones, .int .i64 g.hours, .slice la ln lc, .int .i64 g.low, .int .i64 g.high] 24) (Obj.cells #[.int .i64 0, .int .i64 0, .int .i64 0, .string ⟨#[]⟩, .int .i64 0, .int .i64 0, .int .i64 0, .bool false, .int .i64 0, .int .i64 0, .string ⟨#[]⟩, .int .i64 0, .int .i64 0, .bool false, .int .i64 0, .slice none 0 0, .int .i64 0, .int .i64 0] 32)
  have eg : ((w.alloc (Obj.cells #[.int .i64 g.zones, .int .i64 g.hours, .slice la ln lc, .int .i64 g.low, .int .i64 g.high] 24)).alloc (Obj.cells #[.int .i64 0, .int .i64 0, .int .i64 0, .string ⟨#[]⟩, .int .i64 0, .int .i64 0, .int .i64 0, .bool false, .int .i64 0, .int .i64 0, .string ⟨#[]⟩, .int .i64 0, .int .i64 0, .bool false, .int .i64 0, .slice none 0 0, .int .i64 0, .int .i64 0] 32)).heap[w.heap.size]? = some (Obj.cells #[.int .i64 g.zones, .int .i64 g.hours, .slice la ln lc, .int .i64 g.low, .int .i64 g.high] 24 (0, 0)) := blk_below (heap_alloc_last w _) ((Below.refl _ _).alloc (Nat.le_refl _) _)
  have er : ((w.alloc (Obj.cells #[.int .i64 g.zones, .int .i64 g.hours, .slice la ln lc, .int .i64 g.low, .int .i64 g.high] 24)).alloc (Obj.cells #[.int .i64 0, .int .i64 0, .int .i64 0, .string ⟨#[]⟩, .int .i64 0, .int .i64 0, .int .i64 0, .bool false, .int .i64 0, .int .i64 0, .string ⟨#[]⟩, .int .i64 0, .int .i64 0, .bool false, .int .i64 0, .slice none 0 0, .int .i64 0, .int .i64 0] 32)).heap[w.heap.size + 1]? = some (Obj.cells #[.int .i64 0, .int .i64 0, .int .i64 0, .string ⟨#[]⟩, .int .i64 0, .int .i64 0, .int .i64 0, .bool false, .int .i64 0, .int .i64 0, .string ⟨#[]⟩, .int .i64 0, .int .i64 0, .bool false, .int .i64 0, .slice none 0 0, .int .i64 0, .int .i64 0] 32 (0, 0)) := heap_alloc2_new _ _ _
  go_enter Tryd.func8, Tryd.ntmps8
  go_wp2_with fail
  generalize (w.alloc (Obj.cells #[.int .i64 g.zones, .int .i64 g.hours, .slice la ln lc, .int .i64 g.low, .int .i64 g.high] 24)).alloc (Obj.cells #[.int .i64 0, .int .i64 0, .int .i64 0, .string ⟨#[]⟩, .int .i64 0, .int .i64 0, .int .i64 0, .bool false, .int .i64 0, .int .i64 0, .string ⟨#[]⟩, .int .i64 0, .int .i64 0, .bool false, .int .i64 0, .slice none 0 0, .int .i64 0, .int .i64 0] 32) = W1 at *
  have hm1 := hm.below b1
  refine (words_any line W1 (by omega) hm1).mono ?_
  rintro r2 W2 ⟨⟨v, rfl, hv⟩, b2⟩
  have er2 := blk_below er b2
  have eg2 := blk_below eg b2
  have B2 := chain2 b1 b2
  have hm2 := hm1.below b2
  have hz2 := B2.size
  have hr2 := lt_of_block er2
  clear hm hm1 b1 b2 eg er
  rw [hE] at ⊢
  rw [hL] at hv
  obtain ⟨b, off, c, hv', hlc, hcm, hc, hx⟩ := hv.at 0 (by simp)
  simp only [Nat.add_zero, List.getElem_cons_zero] at hc hx
  subst hv'
  unfold maxLen at hcm
  have hbW := World.block_lt_of_cell? W2 _ hc
  simp only at hbW
  rw [show lockB = ⟨#[108, 111, 99, 107]⟩ from rfl] at hc
  simp only [List.length_cons] at hlc ⊢
  obtain ⟨n, hn⟩ : ∃ n, R.length + 1 = n := ⟨_, rfl⟩
  rw [hn] at hlc ⊢
  have hnn : ¬ (n : Int) = 2 := by omega
  have hK := fun v => kindOf_lock v
  have hn0 : (0 : Int) < (n : Int) := by omega
  go_wp2_with fail
  refine (hK W2).mono ?_
  rintro r3 w3 ⟨rfl, hw3⟩
  rw [hw3]
  clear hw3 hK
  go_wp2_with fail
  refine (lineOf_lock (.int .i64 0) (.int .i64 0) (.string ⟨#[]⟩) (.int .i64 0) (.int .i64 0) (.int .i64 0) (.bool false) (.int .i64 0) (.int .i64 0) (.string ⟨#[]⟩) (.int .i64 0) (.int .i64 0) (.bool false) (.int .i64 0) (.slice none 0 0) (.int .i64 0) (.int .i64 0) W2).mono ?_
  rintro r4 W4 ⟨rfl, hw4⟩
  have l4 : W4.heap[W2.heap.size + 1]? = some (Obj.cells #[.int .i64 1, .int .i64 0, .int .i64 0, .string ⟨#[]⟩, .int .i64 0, .int .i64 0, .int .i64 0, .bool false, .int .i64 0, .int .i64 0, .string ⟨#[]⟩, .int .i64 0, .int .i64 0, .bool false, .int .i64 0, .slice none 0 0, .int .i64 0, .int .i64 0] 67 (0, 0)) := by rw [hw4]; exact heap_alloc2_new _ _ _
  have b4 : Below W2.heap.size W2 W4 := by rw [hw4]; exact alloc2_below _ _ _
  clear hw4
  have hW := lockwords_empty W4 (W2.heap.size + 1) (.int .i64 1) (.int .i64 0) (.string ⟨#[]⟩) (.int .i64 0) (.int .i64 0) (.int .i64 0) (.bool false) (.int .i64 0) (.int .i64 0) (.string ⟨#[]⟩) (.int .i64 0) (.int .i64 0) (.bool false) (.int .i64 0) (.slice none 0 0) (.int .i64 0) (.int .i64 0) l4
  have m1 := m_lock_words
  have m2 := m_lock_fill
  have m3 := m_lock_ask
  go_wp2_with fail
  refine hW.mono ?_
  rintro r5 W5 ⟨⟨a5, rfl⟩, b5⟩
  have l5 := blk_below l4 b5
  have B5 : Below W2.heap.size W2 W5 := chain2 b4 b5
  clear hW l4 b4 b5
  have er5 := blk_below er2 (B5)
  have C5 := chain2 B2 B5
  have hr := rowOf_is (n := 18) er5 rfl
  have e4 := setRow_heap _ _ _ #[.int .i64 0, .int .i64 0, .int .i64 0, .string ⟨#[]⟩, .int .i64 0, .int .i64 0, .int .i64 0, .bool false, .int .i64 0, .int .i64 0, .string ⟨#[]⟩, .int .i64 0, .int .i64 0, .bool false, .int .i64 0, .slice none 0 0, .int .i64 0, .int .i64 0] _ _ er5
  have b4 := below_row (g := w.heap.size + 1) C5 (by omega) #[.int .i64 0, .int .i64 0, .int .i64 0, .string ⟨#[]⟩, .int .i64 0, .int .i64 0, .int .i64 0, .bool false, .int .i64 0, .int .i64 0, .string ⟨#[]⟩, .int .i64 0, .int .i64 0, .bool false, .int .i64 0, .slice none 0 0, .int .i64 0, .int .i64 0]
  clear er2 eg2 er5 l5 m1 m2 m3
  go_wp2
  exact bodyPost_ret (results_cell_tmp Tryd.results8 _ _ (w.heap.size + 1) _ _ _ _ (by rfl) e4 Tryd.underlying32 (by rfl) info_Ask) rfl ⟨⟨.slice none 0 0, rfl, Row1.nil _⟩, b4⟩
set_option maxHeartbeats 6400000 in
theorem parse_manystep (who line : ByteArray) (g : Gd) (la : Option Addr) (ln lc : Nat) (w : World) (hm : Mx w) (hwho : who.size ≤ 1000000000) (hline : line.size ≤ 1000000000) (hE : wordsE line = 0) (R : List ByteArray) (hL : wordsL line = stepB :: R) (hR : R.length ≠ 6) :
    Calls Tryd.prog 8 #[.string who, .string line, .agg #[.int .i64 g.zones, .int .i64 g.hours, .slice la ln lc, .int .i64 g.low, .int .i64 g.high]] w fun r w' => (∃ q, r = .returned (.tuple #[.agg (askV (ak0) q), .int .i64 (91)]) ∧ Ints w' q (ak0).bq) ∧ Below w.heap.size w w' := by
  have b1 := alloc2_below w (Obj.cells #[.int .i64 g.zones, .int .i64 g.hours, .slice la ln lc, .int .i64 g.low, .int .i64 g.high] 24) (Obj.cells #[.int .i64 0, .int .i64 0, .int .i64 0, .string ⟨#[]⟩, .int .i64 0, .int .i64 0, .int .i64 0, .bool false, .int .i64 0, .int .i64 0, .string ⟨#[]⟩, .int .i64 0, .int .i64 0, .bool false, .int .i64 0, .slice none 0 0, .int .i64 0, .int .i64 0] 32)
  have eg : ((w.alloc (Obj.cells #[.int .i64 g.zones, .int .i64 g.hours, .slice la ln lc, .int .i64 g.low, .int .i64 g.high] 24)).alloc (Obj.cells #[.int .i64 0, .int .i64 0, .int .i64 0, .string ⟨#[]⟩, .int .i64 0, .int .i64 0, .int .i64 0, .bool false, .int .i64 0, .int .i64 0, .string ⟨#[]⟩, .int .i64 0, .int .i64 0, .bool false, .int .i64 0, .slice none 0 0, .int .i64 0, .int .i64 0] 32)).heap[w.heap.size]? = some (Obj.cells #[.int .i64 g.zones, .int .i64 g.hours, .slice la ln lc, .int .i64 g.low, .int .i64 g.high] 24 (0, 0)) := blk_below (heap_alloc_last w _) ((Below.refl _ _).alloc (Nat.le_refl _) _)
  have er : ((w.alloc (Obj.cells #[.int .i64 g.zones, .int .i64 g.hours, .slice la ln lc, .int .i64 g.low, .int .i64 g.high] 24)).alloc (Obj.cells #[.int .i64 0, .int .i64 0, .int .i64 0, .string ⟨#[]⟩, .int .i64 0, .int .i64 0, .int .i64 0, .bool false, .int .i64 0, .int .i64 0, .string ⟨#[]⟩, .int .i64 0, .int .i64 0, .bool false, .int .i64 0, .slice none 0 0, .int .i64 0, .int .i64 0] 32)).heap[w.heap.size + 1]? = some (Obj.cells #[.int .i64 0, .int .i64 0, .int .i64 0, .string ⟨#[]⟩, .int .i64 0, .int .i64 0, .int .i64 0, .bool false, .int .i64 0, .int .i64 0, .string ⟨#[]⟩, .int .i64 0, .int .i64 0, .bool false, .int .i64 0, .slice none 0 0, .int .i64 0, .int .i64 0] 32 (0, 0)) := heap_alloc2_new _ _ _
  go_enter Tryd.func8, Tryd.ntmps8
  go_wp2_with fail
  generalize (w.alloc (Obj.cells #[.int .i64 g.zones, .int .i64 g.hours, .slice la ln lc, .int .i64 g.low, .int .i64 g.high] 24)).alloc (Obj.cells #[.int .i64 0, .int .i64 0, .int .i64 0, .string ⟨#[]⟩, .int .i64 0, .int .i64 0, .int .i64 0, .bool false, .int .i64 0, .int .i64 0, .string ⟨#[]⟩, .int .i64 0, .int .i64 0, .bool false, .int .i64 0, .slice none 0 0, .int .i64 0, .int .i64 0] 32) = W1 at *
  have hm1 := hm.below b1
  refine (words_any line W1 (by omega) hm1).mono ?_
  rintro r2 W2 ⟨⟨v, rfl, hv⟩, b2⟩
  have er2 := blk_below er b2
  have eg2 := blk_below eg b2
  have B2 := chain2 b1 b2
  have hm2 := hm1.below b2
  have hz2 := B2.size
  have hr2 := lt_of_block er2
  clear hm hm1 b1 b2 eg er
  rw [hE] at ⊢
  rw [hL] at hv
  obtain ⟨b, off, c, hv', hlc, hcm, hc, hx⟩ := hv.at 0 (by simp)
  simp only [Nat.add_zero, List.getElem_cons_zero] at hc hx
  subst hv'
  unfold maxLen at hcm
  have hbW := World.block_lt_of_cell? W2 _ hc
  simp only at hbW
  rw [show stepB = ⟨#[115, 116, 101, 112]⟩ from rfl] at hc
  simp only [List.length_cons] at hlc ⊢
  obtain ⟨n, hn⟩ : ∃ n, R.length + 1 = n := ⟨_, rfl⟩
  rw [hn] at hlc ⊢
  have hnn : ¬ (n : Int) = 7 := by omega
  have hK := fun v => kindOf_step v
  have hn0 : (0 : Int) < (n : Int) := by omega
  go_wp2_with fail
  refine (hK W2).mono ?_
  rintro r3 w3 ⟨rfl, hw3⟩
  rw [hw3]
  clear hw3 hK
  go_wp2_with fail
  refine (lineOf_step (.int .i64 0) (.int .i64 0) (.string ⟨#[]⟩) (.int .i64 0) (.int .i64 0) (.int .i64 0) (.bool false) (.int .i64 0) (.int .i64 0) (.string ⟨#[]⟩) (.int .i64 0) (.int .i64 0) (.bool false) (.int .i64 0) (.slice none 0 0) (.int .i64 0) (.int .i64 0) W2).mono ?_
  rintro r4 W4 ⟨rfl, hw4⟩
  have l4 : W4.heap[W2.heap.size + 1]? = some (Obj.cells #[.string ⟨#[]⟩, .int .i64 0, .int .i64 0, .int .i64 0, .bool false, .int .i64 0, .int .i64 0] 70 (0, 0)) := by rw [hw4]; exact heap_alloc2_new _ _ _
  have b4 : Below W2.heap.size W2 W4 := by rw [hw4]; exact alloc2_below _ _ _
  clear hw4
  have hW := stepwords_empty W4 (W2.heap.size + 1) (.string ⟨#[]⟩) l4
  have m1 := m_step_words
  have m2 := m_step_fill
  have m3 := m_step_ask
  go_wp2_with fail
  refine hW.mono ?_
  rintro r5 W5 ⟨⟨a5, rfl⟩, b5⟩
  have l5 := blk_below l4 b5
  have B5 : Below W2.heap.size W2 W5 := chain2 b4 b5
  clear hW l4 b4 b5
  have er5 := blk_below er2 (B5)
  have C5 := chain2 B2 B5
  have hr := rowOf_is (n := 18) er5 rfl
  have e4 := setRow_heap _ _ _ #[.int .i64 0, .int .i64 0, .int .i64 0, .string ⟨#[]⟩, .int .i64 0, .int .i64 0, .int .i64 0, .bool false, .int .i64 0, .int .i64 0, .string ⟨#[]⟩, .int .i64 0, .int .i64 0, .bool false, .int .i64 0, .slice none 0 0, .int .i64 0, .int .i64 0] _ _ er5
  have b4 := below_row (g := w.heap.size + 1) C5 (by omega) #[.int .i64 0, .int .i64 0, .int .i64 0, .string ⟨#[]⟩, .int .i64 0, .int .i64 0, .int .i64 0, .bool false, .int .i64 0, .int .i64 0, .string ⟨#[]⟩, .int .i64 0, .int .i64 0, .bool false, .int .i64 0, .slice none 0 0, .int .i64 0, .int .i64 0]
  clear er2 eg2 er5 l5 m1 m2 m3
  go_wp2
  exact bodyPost_ret (results_cell_tmp Tryd.results8 _ _ (w.heap.size + 1) _ _ _ _ (by rfl) e4 Tryd.underlying32 (by rfl) info_Ask) rfl ⟨⟨.slice none 0 0, rfl, Row1.nil _⟩, b4⟩
set_option maxHeartbeats 6400000 in
theorem parse_manyblock (who line : ByteArray) (g : Gd) (la : Option Addr) (ln lc : Nat) (w : World) (hm : Mx w) (hwho : who.size ≤ 1000000000) (hline : line.size ≤ 1000000000) (hE : wordsE line = 0) (R : List ByteArray) (hL : wordsL line = blockB :: R) (hR : R.length ≠ 7) :
    Calls Tryd.prog 8 #[.string who, .string line, .agg #[.int .i64 g.zones, .int .i64 g.hours, .slice la ln lc, .int .i64 g.low, .int .i64 g.high]] w fun r w' => (∃ q, r = .returned (.tuple #[.agg (askV (ak0) q), .int .i64 (91)]) ∧ Ints w' q (ak0).bq) ∧ Below w.heap.size w w' := by
  have b1 := alloc2_below w (Obj.cells #[.int .i64 g.zones, .int .i64 g.hours, .slice la ln lc, .int .i64 g.low, .int .i64 g.high] 24) (Obj.cells #[.int .i64 0, .int .i64 0, .int .i64 0, .string ⟨#[]⟩, .int .i64 0, .int .i64 0, .int .i64 0, .bool false, .int .i64 0, .int .i64 0, .string ⟨#[]⟩, .int .i64 0, .int .i64 0, .bool false, .int .i64 0, .slice none 0 0, .int .i64 0, .int .i64 0] 32)
  have eg : ((w.alloc (Obj.cells #[.int .i64 g.zones, .int .i64 g.hours, .slice la ln lc, .int .i64 g.low, .int .i64 g.high] 24)).alloc (Obj.cells #[.int .i64 0, .int .i64 0, .int .i64 0, .string ⟨#[]⟩, .int .i64 0, .int .i64 0, .int .i64 0, .bool false, .int .i64 0, .int .i64 0, .string ⟨#[]⟩, .int .i64 0, .int .i64 0, .bool false, .int .i64 0, .slice none 0 0, .int .i64 0, .int .i64 0] 32)).heap[w.heap.size]? = some (Obj.cells #[.int .i64 g.zones, .int .i64 g.hours, .slice la ln lc, .int .i64 g.low, .int .i64 g.high] 24 (0, 0)) := blk_below (heap_alloc_last w _) ((Below.refl _ _).alloc (Nat.le_refl _) _)
  have er : ((w.alloc (Obj.cells #[.int .i64 g.zones, .int .i64 g.hours, .slice la ln lc, .int .i64 g.low, .int .i64 g.high] 24)).alloc (Obj.cells #[.int .i64 0, .int .i64 0, .int .i64 0, .string ⟨#[]⟩, .int .i64 0, .int .i64 0, .int .i64 0, .bool false, .int .i64 0, .int .i64 0, .string ⟨#[]⟩, .int .i64 0, .int .i64 0, .bool false, .int .i64 0, .slice none 0 0, .int .i64 0, .int .i64 0] 32)).heap[w.heap.size + 1]? = some (Obj.cells #[.int .i64 0, .int .i64 0, .int .i64 0, .string ⟨#[]⟩, .int .i64 0, .int .i64 0, .int .i64 0, .bool false, .int .i64 0, .int .i64 0, .string ⟨#[]⟩, .int .i64 0, .int .i64 0, .bool false, .int .i64 0, .slice none 0 0, .int .i64 0, .int .i64 0] 32 (0, 0)) := heap_alloc2_new _ _ _
  go_enter Tryd.func8, Tryd.ntmps8
  go_wp2_with fail
  generalize (w.alloc (Obj.cells #[.int .i64 g.zones, .int .i64 g.hours, .slice la ln lc, .int .i64 g.low, .int .i64 g.high] 24)).alloc (Obj.cells #[.int .i64 0, .int .i64 0, .int .i64 0, .string ⟨#[]⟩, .int .i64 0, .int .i64 0, .int .i64 0, .bool false, .int .i64 0, .int .i64 0, .string ⟨#[]⟩, .int .i64 0, .int .i64 0, .bool false, .int .i64 0, .slice none 0 0, .int .i64 0, .int .i64 0] 32) = W1 at *
  have hm1 := hm.below b1
  refine (words_any line W1 (by omega) hm1).mono ?_
  rintro r2 W2 ⟨⟨v, rfl, hv⟩, b2⟩
  have er2 := blk_below er b2
  have eg2 := blk_below eg b2
  have B2 := chain2 b1 b2
  have hm2 := hm1.below b2
  have hz2 := B2.size
  have hr2 := lt_of_block er2
  clear hm hm1 b1 b2 eg er
  rw [hE] at ⊢
  rw [hL] at hv
  obtain ⟨b, off, c, hv', hlc, hcm, hc, hx⟩ := hv.at 0 (by simp)
  simp only [Nat.add_zero, List.getElem_cons_zero] at hc hx
  subst hv'
  unfold maxLen at hcm
  have hbW := World.block_lt_of_cell? W2 _ hc
  simp only at hbW
  rw [show blockB = ⟨#[98, 108, 111, 99, 107]⟩ from rfl] at hc
  simp only [List.length_cons] at hlc ⊢
  obtain ⟨n, hn⟩ : ∃ n, R.length + 1 = n := ⟨_, rfl⟩
  rw [hn] at hlc ⊢
  have hnn : ¬ (n : Int) = 8 := by omega
  have hK := fun v => kindOf_block v
  have hn0 : (0 : Int) < (n : Int) := by omega
  go_wp2_with fail
  refine (hK W2).mono ?_
  rintro r3 w3 ⟨rfl, hw3⟩
  rw [hw3]
  clear hw3 hK
  go_wp2_with fail
  refine (lineOf_block (.int .i64 0) (.int .i64 0) (.string ⟨#[]⟩) (.int .i64 0) (.int .i64 0) (.int .i64 0) (.bool false) (.int .i64 0) (.int .i64 0) (.string ⟨#[]⟩) (.int .i64 0) (.int .i64 0) (.bool false) (.int .i64 0) (.slice none 0 0) (.int .i64 0) (.int .i64 0) W2).mono ?_
  rintro r4 W4 ⟨rfl, hw4⟩
  have l4 : W4.heap[W2.heap.size + 1]? = some (Obj.cells #[.string ⟨#[]⟩, .int .i64 0, .int .i64 0, .bool false, .int .i64 0, .slice none 0 0, .int .i64 0, .int .i64 0] 73 (0, 0)) := by rw [hw4]; exact heap_alloc2_new _ _ _
  have b4 : Below W2.heap.size W2 W4 := by rw [hw4]; exact alloc2_below _ _ _
  clear hw4
  have hW := blockwords_empty W4 (W2.heap.size + 1) (.string ⟨#[]⟩) l4
  have m1 := m_block_words
  have m2 := m_block_fill
  have m3 := m_block_ask
  go_wp2_with fail
  refine hW.mono ?_
  rintro r5 W5 ⟨⟨a5, rfl⟩, b5⟩
  have l5 := blk_below l4 b5
  have B5 : Below W2.heap.size W2 W5 := chain2 b4 b5
  clear hW l4 b4 b5
  have er5 := blk_below er2 (B5)
  have C5 := chain2 B2 B5
  have hr := rowOf_is (n := 18) er5 rfl
  have e4 := setRow_heap _ _ _ #[.int .i64 0, .int .i64 0, .int .i64 0, .string ⟨#[]⟩, .int .i64 0, .int .i64 0, .int .i64 0, .bool false, .int .i64 0, .int .i64 0, .string ⟨#[]⟩, .int .i64 0, .int .i64 0, .bool false, .int .i64 0, .slice none 0 0, .int .i64 0, .int .i64 0] _ _ er5
  have b4 := below_row (g := w.heap.size + 1) C5 (by omega) #[.int .i64 0, .int .i64 0, .int .i64 0, .string ⟨#[]⟩, .int .i64 0, .int .i64 0, .int .i64 0, .bool false, .int .i64 0, .int .i64 0, .string ⟨#[]⟩, .int .i64 0, .int .i64 0, .bool false, .int .i64 0, .slice none 0 0, .int .i64 0, .int .i64 0]
  clear er2 eg2 er5 l5 m1 m2 m3
  go_wp2
  exact bodyPost_ret (results_cell_tmp Tryd.results8 _ _ (w.heap.size + 1) _ _ _ _ (by rfl) e4 Tryd.underlying32 (by rfl) info_Ask) rfl ⟨⟨.slice none 0 0, rfl, Row1.nil _⟩, b4⟩
set_option maxHeartbeats 6400000 in
theorem parse_manycancel (who line : ByteArray) (g : Gd) (la : Option Addr) (ln lc : Nat) (w : World) (hm : Mx w) (hwho : who.size ≤ 1000000000) (hline : line.size ≤ 1000000000) (hE : wordsE line = 0) (R : List ByteArray) (hL : wordsL line = cancelB :: R) (hR : R.length ≠ 1) :
    Calls Tryd.prog 8 #[.string who, .string line, .agg #[.int .i64 g.zones, .int .i64 g.hours, .slice la ln lc, .int .i64 g.low, .int .i64 g.high]] w fun r w' => (∃ q, r = .returned (.tuple #[.agg (askV (ak0) q), .int .i64 (91)]) ∧ Ints w' q (ak0).bq) ∧ Below w.heap.size w w' := by
  have b1 := alloc2_below w (Obj.cells #[.int .i64 g.zones, .int .i64 g.hours, .slice la ln lc, .int .i64 g.low, .int .i64 g.high] 24) (Obj.cells #[.int .i64 0, .int .i64 0, .int .i64 0, .string ⟨#[]⟩, .int .i64 0, .int .i64 0, .int .i64 0, .bool false, .int .i64 0, .int .i64 0, .string ⟨#[]⟩, .int .i64 0, .int .i64 0, .bool false, .int .i64 0, .slice none 0 0, .int .i64 0, .int .i64 0] 32)
  have eg : ((w.alloc (Obj.cells #[.int .i64 g.zones, .int .i64 g.hours, .slice la ln lc, .int .i64 g.low, .int .i64 g.high] 24)).alloc (Obj.cells #[.int .i64 0, .int .i64 0, .int .i64 0, .string ⟨#[]⟩, .int .i64 0, .int .i64 0, .int .i64 0, .bool false, .int .i64 0, .int .i64 0, .string ⟨#[]⟩, .int .i64 0, .int .i64 0, .bool false, .int .i64 0, .slice none 0 0, .int .i64 0, .int .i64 0] 32)).heap[w.heap.size]? = some (Obj.cells #[.int .i64 g.zones, .int .i64 g.hours, .slice la ln lc, .int .i64 g.low, .int .i64 g.high] 24 (0, 0)) := blk_below (heap_alloc_last w _) ((Below.refl _ _).alloc (Nat.le_refl _) _)
  have er : ((w.alloc (Obj.cells #[.int .i64 g.zones, .int .i64 g.hours, .slice la ln lc, .int .i64 g.low, .int .i64 g.high] 24)).alloc (Obj.cells #[.int .i64 0, .int .i64 0, .int .i64 0, .string ⟨#[]⟩, .int .i64 0, .int .i64 0, .int .i64 0, .bool false, .int .i64 0, .int .i64 0, .string ⟨#[]⟩, .int .i64 0, .int .i64 0, .bool false, .int .i64 0, .slice none 0 0, .int .i64 0, .int .i64 0] 32)).heap[w.heap.size + 1]? = some (Obj.cells #[.int .i64 0, .int .i64 0, .int .i64 0, .string ⟨#[]⟩, .int .i64 0, .int .i64 0, .int .i64 0, .bool false, .int .i64 0, .int .i64 0, .string ⟨#[]⟩, .int .i64 0, .int .i64 0, .bool false, .int .i64 0, .slice none 0 0, .int .i64 0, .int .i64 0] 32 (0, 0)) := heap_alloc2_new _ _ _
  go_enter Tryd.func8, Tryd.ntmps8
  go_wp2_with fail
  generalize (w.alloc (Obj.cells #[.int .i64 g.zones, .int .i64 g.hours, .slice la ln lc, .int .i64 g.low, .int .i64 g.high] 24)).alloc (Obj.cells #[.int .i64 0, .int .i64 0, .int .i64 0, .string ⟨#[]⟩, .int .i64 0, .int .i64 0, .int .i64 0, .bool false, .int .i64 0, .int .i64 0, .string ⟨#[]⟩, .int .i64 0, .int .i64 0, .bool false, .int .i64 0, .slice none 0 0, .int .i64 0, .int .i64 0] 32) = W1 at *
  have hm1 := hm.below b1
  refine (words_any line W1 (by omega) hm1).mono ?_
  rintro r2 W2 ⟨⟨v, rfl, hv⟩, b2⟩
  have er2 := blk_below er b2
  have eg2 := blk_below eg b2
  have B2 := chain2 b1 b2
  have hm2 := hm1.below b2
  have hz2 := B2.size
  have hr2 := lt_of_block er2
  clear hm hm1 b1 b2 eg er
  rw [hE] at ⊢
  rw [hL] at hv
  obtain ⟨b, off, c, hv', hlc, hcm, hc, hx⟩ := hv.at 0 (by simp)
  simp only [Nat.add_zero, List.getElem_cons_zero] at hc hx
  subst hv'
  unfold maxLen at hcm
  have hbW := World.block_lt_of_cell? W2 _ hc
  simp only at hbW
  rw [show cancelB = ⟨#[99, 97, 110, 99, 101, 108]⟩ from rfl] at hc
  simp only [List.length_cons] at hlc ⊢
  obtain ⟨n, hn⟩ : ∃ n, R.length + 1 = n := ⟨_, rfl⟩
  rw [hn] at hlc ⊢
  have hnn : ¬ (n : Int) = 2 := by omega
  have hK := fun v => kindOf_cancel v
  have hn0 : (0 : Int) < (n : Int) := by omega
  go_wp2_with fail
  refine (hK W2).mono ?_
  rintro r3 w3 ⟨rfl, hw3⟩
  rw [hw3]
  clear hw3 hK
  go_wp2_with fail
  refine (lineOf_cancel (.int .i64 0) (.int .i64 0) (.string ⟨#[]⟩) (.int .i64 0) (.int .i64 0) (.int .i64 0) (.bool false) (.int .i64 0) (.int .i64 0) (.string ⟨#[]⟩) (.int .i64 0) (.int .i64 0) (.bool false) (.int .i64 0) (.slice none 0 0) (.int .i64 0) (.int .i64 0) W2).mono ?_
  rintro r4 W4 ⟨rfl, hw4⟩
  have l4 : W4.heap[W2.heap.size + 1]? = some (Obj.cells #[.int .i64 4, .int .i64 0, .int .i64 0, .string ⟨#[]⟩, .int .i64 0, .int .i64 0, .int .i64 0, .bool false, .int .i64 0, .int .i64 0, .string ⟨#[]⟩, .int .i64 0, .int .i64 0, .bool false, .int .i64 0, .slice none 0 0, .int .i64 0, .int .i64 0] 75 (0, 0)) := by rw [hw4]; exact heap_alloc2_new _ _ _
  have b4 : Below W2.heap.size W2 W4 := by rw [hw4]; exact alloc2_below _ _ _
  clear hw4
  have hW := cancelwords_empty W4 (W2.heap.size + 1) (.int .i64 4) (.int .i64 0) (.string ⟨#[]⟩) (.int .i64 0) (.int .i64 0) (.int .i64 0) (.bool false) (.int .i64 0) (.int .i64 0) (.string ⟨#[]⟩) (.int .i64 0) (.int .i64 0) (.bool false) (.int .i64 0) (.slice none 0 0) (.int .i64 0) (.int .i64 0) l4
  have m1 := m_cancel_words
  have m2 := m_cancel_fill
  have m3 := m_cancel_ask
  go_wp2_with fail
  refine hW.mono ?_
  rintro r5 W5 ⟨⟨a5, rfl⟩, b5⟩
  have l5 := blk_below l4 b5
  have B5 : Below W2.heap.size W2 W5 := chain2 b4 b5
  clear hW l4 b4 b5
  have er5 := blk_below er2 (B5)
  have C5 := chain2 B2 B5
  have hr := rowOf_is (n := 18) er5 rfl
  have e4 := setRow_heap _ _ _ #[.int .i64 0, .int .i64 0, .int .i64 0, .string ⟨#[]⟩, .int .i64 0, .int .i64 0, .int .i64 0, .bool false, .int .i64 0, .int .i64 0, .string ⟨#[]⟩, .int .i64 0, .int .i64 0, .bool false, .int .i64 0, .slice none 0 0, .int .i64 0, .int .i64 0] _ _ er5
  have b4 := below_row (g := w.heap.size + 1) C5 (by omega) #[.int .i64 0, .int .i64 0, .int .i64 0, .string ⟨#[]⟩, .int .i64 0, .int .i64 0, .int .i64 0, .bool false, .int .i64 0, .int .i64 0, .string ⟨#[]⟩, .int .i64 0, .int .i64 0, .bool false, .int .i64 0, .slice none 0 0, .int .i64 0, .int .i64 0]
  clear er2 eg2 er5 l5 m1 m2 m3
  go_wp2
  exact bodyPost_ret (results_cell_tmp Tryd.results8 _ _ (w.heap.size + 1) _ _ _ _ (by rfl) e4 Tryd.underlying32 (by rfl) info_Ask) rfl ⟨⟨.slice none 0 0, rfl, Row1.nil _⟩, b4⟩
end Go.Proofs.YthhikmlbpagknaaDoor
