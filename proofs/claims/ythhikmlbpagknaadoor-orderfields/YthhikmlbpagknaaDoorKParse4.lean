/- order: Parse, a Block. -/
import Derived.Test.YthhikmlbpagknaaDoorKParse1
namespace Go.Proofs.YthhikmlbpagknaaDoor
open Go.RowKit
set_option linter.unusedVariables false
set_option maxRecDepth 100000
set_option linter.unusedSimpArgs false

set_option maxHeartbeats 6400000 in
theorem parse_badblock (who line : ByteArray) (g : Gd) (la : Option Addr) (ln lc : Nat) (w : World) (hm : Mx w) (hwho : who.size ≤ 1000000000) (hline : line.size ≤ 1000000000) (hE : wordsE line = 0) (x1 x2 x3 x4 x5 x6 x7 : ByteArray) (hL : wordsL line = blockB :: [x1, x2, x3, x4, x5, x6, x7]) (he : ¬ blockE g x1 x2 x3 x4 x5 x6 x7 = 0) (hzones : g.zones ≤ 9223372036854775807) :
    Calls Tryd.prog 8 #[.string who, .string line, .agg #[.int .i64 g.zones, .int .i64 g.hours, .slice la ln lc, .int .i64 g.low, .int .i64 g.high]] w fun r w' => (∃ q, r = .returned (.tuple #[.agg (askV (ak0) q), .int .i64 (blockE g x1 x2 x3 x4 x5 x6 x7)]) ∧ Ints w' q (ak0).bq) ∧ Below w.heap.size w w' := by
  have b1 := alloc2_below w (Obj.cells #[.int .i64 g.zones, .int .i64 g.hours, .slice la ln lc, .int .i64 g.low, .int .i64 g.high] 24) (Obj.cells #[.int .i64 0, .int .i64 0, .int .i64 0, .string ⟨#[]⟩, .int .i64 0, .int .i64 0, .int .i64 0, .bool false, .int .i64 0, .int .i64 0, .string ⟨#[]⟩, .int .i64 0, .int .i64 0, .bool false, .int .i64 0, .slice none 0 0, .int .i64 0, .int .i64 0] 32)
  have eg : ((w.alloc (Obj.cells #[.int .i64 g.zones, .int .i64 g.hours, .slice la ln lc, .int .i64 g.low, .int .i64 g.high] 24)).alloc (Obj.cells #[.int .i64 0, .int .i64 0, .int .i64 0, .string ⟨#[]⟩, .int .i64 0, .int .i64 0, .int .i64 0, .bool false, .int .i64 0, .int .i64 0, .string ⟨#[]⟩, .int .i64 0, .int .i64 0, .bool false, .int .i64 0, .slice none 0 0, .int .i64 0, .int .i64 0] 32)).heap[w.heap.size]? = some (Obj.cells #[.int .i64 g.zones, .int .i64 g.hours, .slice la ln lc, .int .i64 g.low, .int .i64 g.high] 24 (0, 0)) := blk_below (heap_alloc_last w _) ((Below.refl _ _).alloc (Nat.le_refl _) _)
  have er : ((w.alloc (Obj.cells #[.int .i64 g.zones, .int .i64 g.hours, .slice la ln lc, .int .i64 g.low, .int .i64 g.high] 24)).alloc (Obj.cells #[.int .i64 0, .int .i64 0, .int .i64 0, .string ⟨#[]⟩, .int .i64 0, .int .i64 0, .int .i64 0, .bool false, .int .i64 0, .int .i64 0, .string ⟨#[]⟩, .int .i64 0, .int .i64 0, .bool false, .int .i64 0, .slice none 0 0, .int .i64 0, .int .i64 0] 32)).heap[w.heap.size + 1]? = some (Obj.cells #[.int .i64 0, .int .i64 0, .int .i64 0, .string ⟨#[]⟩, .int .i64 0, .int .i64 0, .int .i64 0, .bool false, .int .i64 0, .int .i64 0, .string ⟨#[]⟩, .int .i64 0, .int .i64 0, .bool false, .int .i64 0, .slice none 0 0, .int .i64 0, .int .i64 0] 32 (0, 0)) := heap_alloc2_new _ _ _
  go_enter Tryd.func8, Tryd.ntmps8
  go_wp2_with fail
  generalize (w.alloc (Obj.cells #[.int .i64 g.zones, .int .i64 g.hours, .slice la ln lc, .int .i64 g.low, .int .i64 g.high] 24)).alloc (Obj.cells #[.int .i64 0, .int .i64 0, .int .i64 0, .string ⟨#[]⟩, .int .i64 0, .int .i64 0, .int .i64 0, .bool false, .int .i64 0, .int .i64 0, .string ⟨#[]⟩, .int .i64 0, .int .i64 0, .bool false, .int .i64 0, .slice none 0 0, .int .i64 0, .int .i64 0] 32) = W1 at *
  have hm1 := hm.below b1
  refine (words_any line W1 (by omega) hm1).mono ?_
  rintro r2 W2 ⟨⟨v, rfl, hv⟩, b2⟩
  have er2 := blk_below er b2
  have eg2 := blk_below eg b2
  have B2 := chain2 b1 b2
  have hm2 := hm1.below b2
  have hz2 := B2.size
  have hr2 := lt_of_block er2
  clear hm hm1 b1 b2 eg er
  rw [hE] at ⊢
  rw [hL] at hv
  obtain ⟨b, off, c, hv', hlc, hcm, hc, hx⟩ := hv.at 0 (by simp)
  simp only [Nat.add_zero, List.getElem_cons_zero] at hc hx
  subst hv'
  unfold maxLen at hcm
  have hbW := World.block_lt_of_cell? W2 _ hc
  simp only at hbW
  rw [show blockB = ⟨#[98, 108, 111, 99, 107]⟩ from rfl] at hc
  simp only [List.length_cons, List.length_nil, Nat.zero_add, Nat.reduceAdd] at hlc ⊢
  obtain ⟨n, hn⟩ : ∃ n : Nat, n = 8 := ⟨_, rfl⟩
  have hc1 : ¬ c = 1 := by omega
  have hsz : ∀ y ∈ [x1, x2, x3, x4, x5, x6, x7], y.size ≤ 200 := fun y hy => words_small hE (by rw [hL]; simp at hy ⊢; right; exact hy)
  have hrow : Strs W2 (.slice (some ⟨b, off + 1, none⟩) 7 (c - 1)) [x1, x2, x3, x4, x5, x6, x7] := by
    refine ⟨?_, fun y hy => hv.2 y (by simp at hy ⊢; right; exact hy)⟩
    have r1 := hv.1
    rw [show strV (blockB :: [x1, x2, x3, x4, x5, x6, x7]) = .string blockB :: strV [x1, x2, x3, x4, x5, x6, x7] from rfl] at r1
    have r2 := Row1.tail (L := strV [x1, x2, x3, x4, x5, x6, x7]) (c := c) (x := .string blockB) (b := b) (off := off) (by simpa [strV_len] using r1) (some ⟨b, off + 1, none⟩) (Or.inr rfl)
    rwa [strV_len] at r2
  have hK := fun v => kindOf_block v
  go_wp2_with fail
  refine (hK W2).mono ?_
  rintro r3 w3 ⟨rfl, hw3⟩
  rw [hw3]
  clear hw3 hK
  go_wp2_with fail
  refine (lineOf_block (.int .i64 0) (.int .i64 0) (.string ⟨#[]⟩) (.int .i64 0) (.int .i64 0) (.int .i64 0) (.bool false) (.int .i64 0) (.int .i64 0) (.string ⟨#[]⟩) (.int .i64 0) (.int .i64 0) (.bool false) (.int .i64 0) (.slice none 0 0) (.int .i64 0) (.int .i64 0) W2).mono ?_
  rintro r4 W4 ⟨rfl, hw4⟩
  have l4 : W4.heap[W2.heap.size + 1]? = some (Obj.cells #[.string ⟨#[]⟩, .int .i64 0, .int .i64 0, .bool false, .int .i64 0, .slice none 0 0, .int .i64 0, .int .i64 0] 73 (0, 0)) := by rw [hw4]; exact heap_alloc2_new _ _ _
  have b4 : Below W2.heap.size W2 W4 := by rw [hw4]; exact alloc2_below _ _ _
  clear hw4
  have hW := blockwords_empty W4 (W2.heap.size + 1) (.string ⟨#[]⟩) l4
  have m1 := m_block_words
  have m2 := m_block_fill
  have m3 := m_block_ask
  go_wp2_with fail
  refine hW.mono ?_
  rintro r5 W5 ⟨⟨a5, rfl⟩, b5⟩
  have l5 := blk_below l4 b5
  have B5 : Below W2.heap.size W2 W5 := chain2 b4 b5
  clear hW l4 b4 b5
  have eg5 := blk_below eg2 B5
  have y0 := blk_cell eg5 0 (.int .i64 g.zones) rfl
  have y1 := blk_cell eg5 1 (.int .i64 g.hours) rfl
  have y2 := blk_cell eg5 2 (.slice la ln lc) rfl
  have y3 := blk_cell eg5 3 (.int .i64 g.low) rfl
  have y4 := blk_cell eg5 4 (.int .i64 g.high) rfl
  have bd : Below W5.heap.size W5 W5.drew := ⟨rfl, rfl, rfl, Nat.le_refl _, fun _ _ => rfl⟩
  have HG : ∀ X, Below W5.heap.size W5 X → X.cell? ⟨w.heap.size, 0, none⟩ = some (.int .i64 g.zones) ∧ X.cell? ⟨w.heap.size, 1, none⟩ = some (.int .i64 g.hours) ∧ X.cell? ⟨w.heap.size, 2, none⟩ = some (.slice la ln lc) ∧ X.cell? ⟨w.heap.size, 3, none⟩ = some (.int .i64 g.low) ∧ X.cell? ⟨w.heap.size, 4, none⟩ = some (.int .i64 g.high) := fun X hX => ⟨(hX.cell (World.block_lt_of_cell? _ _ y0)).trans y0, (hX.cell (World.block_lt_of_cell? _ _ y1)).trans y1, (hX.cell (World.block_lt_of_cell? _ _ y2)).trans y2, (hX.cell (World.block_lt_of_cell? _ _ y3)).trans y3, (hX.cell (World.block_lt_of_cell? _ _ y4)).trans y4⟩
  clear y0 y1 y2 y3 y4
  go_wp2_with fail
  go_region_held3 (fun X => X.cell? ⟨w.heap.size, 0, none⟩ = some (.int .i64 g.zones) ∧ X.cell? ⟨w.heap.size, 1, none⟩ = some (.int .i64 g.hours) ∧ X.cell? ⟨w.heap.size, 2, none⟩ = some (.slice la ln lc) ∧ X.cell? ⟨w.heap.size, 3, none⟩ = some (.int .i64 g.low) ∧ X.cell? ⟨w.heap.size, 4, none⟩ = some (.int .i64 g.high)) (first | exact HG _ bd | exact HG _ (bd.alloc bd.size _)) (fail)
  have b6 : Below W5.heap.size W5 (W5.alloc (Obj.cells #[.slice (some ⟨b, off + 1, none⟩) 7 (c - 1), .int .i64 g.zones, .int .i64 g.hours, .slice la ln lc, .int .i64 g.low, .int .i64 g.high, .int .i64 0] 52)).drew := ((Below.refl _ _).alloc (Nat.le_refl _) _).drew
  have hx6 : (W5.alloc (Obj.cells #[.slice (some ⟨b, off + 1, none⟩) 7 (c - 1), .int .i64 g.zones, .int .i64 g.hours, .slice la ln lc, .int .i64 g.low, .int .i64 g.high, .int .i64 0] 52)).drew.heap[W5.heap.size]? = some (.cells #[.slice (some ⟨b, off + 1, none⟩) 7 (c - 1), .int .i64 g.zones, .int .i64 g.hours, .slice la ln lc, .int .i64 g.low, .int .i64 g.high, .int .i64 0] 52 (0, 0)) := heap_alloc_last W5 _
  generalize (W5.alloc (Obj.cells #[.slice (some ⟨b, off + 1, none⟩) 7 (c - 1), .int .i64 g.zones, .int .i64 g.hours, .slice la ln lc, .int .i64 g.low, .int .i64 g.high, .int .i64 0] 52)).drew = W6 at *
  have hs5 := B5.size
  have hlb5 := lt_of_block l5
  have hs6 := b6.size
  have B6 : Below W2.heap.size W2 W6 := chain2 B5 b6
  have l6 := blk_below l5 b6
  have F6 : FAt (fun x => W2.heap.size ≤ x) W6 W5.heap.size g (.slice la ln lc) [x1, x2, x3, x4, x5, x6, x7] 0 := ⟨_, hx6, hrow.below B6, fun b' off' n' c' e' => by
    simp only [Value.slice.injEq, Option.some.injEq, Addr.mk.injEq] at e'
    have := e'.1.1
    omega, hs5, hsz⟩
  have hm6 := hm2.below B6
  have hfill := blockfill_any (fun x => W2.heap.size ≤ x) W6 (W2.heap.size + 1) W5.heap.size g (.slice la ln lc) x1 x2 x3 x4 x5 x6 x7 0 (.string ⟨#[]⟩) (.int .i64 0) (.int .i64 0) (.bool false) (.int .i64 0) (.slice none 0 0) (.int .i64 0) (.int .i64 0) l6 (by omega) (by omega) F6 hzones hm6 (by omega) (by omega)
  clear HG bd hx6 hrow hsz F6 hm2 eg2 eg5 hv hc hx hlc hcm
  go_wp2_with fail
  refine hfill.mono ?_
  rintro r7 W7 ⟨rfl, ⟨qv, l7, i7, n7⟩, F7, K7⟩
  have B7 : Below W2.heap.size W2 W7 := B6.trans (K7.below (by omega) (fun b hb => by rcases hb with rfl | rfl <;> omega))
  have hs7 := K7.size
  have er7 := blk_below er2 B7
  have C7 : Below w.heap.size w W7 := chain2 B2 B7
  replace F7 : FAt (fun x => W2.heap.size ≤ x) W7 W5.heap.size g (.slice la ln lc) [] (blockE g x1 x2 x3 x4 x5 x6 x7) := F7
  have z6 := F7.grid.2.2.2.2.1
  clear hfill F7 K7 B6 b6
  obtain ⟨E, HE⟩ : ∃ E, Hid (E = blockE g x1 x2 x3 x4 x5 x6 x7) := ⟨_, rfl⟩
  rw [← HE.out] at z6 he
  have he' : (E != 0) = true := by simp [he]
  have S0 : W7.drew.cell? ⟨W5.heap.size, 6, none⟩ = some (.int .i64 E) ∧ rowOf W7.drew (w.heap.size + 1) 18 = true := ⟨z6, rowOf_is (n := 18) er7 rfl⟩
  have S1 : (W7.drew.setRow (w.heap.size + 1) #[.int .i64 0, .int .i64 0, .int .i64 0, .string ⟨#[]⟩, .int .i64 0, .int .i64 0, .int .i64 0, .bool false, .int .i64 0, .int .i64 0, .string ⟨#[]⟩, .int .i64 0, .int .i64 0, .bool false, .int .i64 0, .slice none 0 0, .int .i64 0, .int .i64 0]).cell? ⟨W5.heap.size, 6, none⟩ = some (.int .i64 E) ∧ rowOf (W7.drew.setRow (w.heap.size + 1) #[.int .i64 0, .int .i64 0, .int .i64 0, .string ⟨#[]⟩, .int .i64 0, .int .i64 0, .int .i64 0, .bool false, .int .i64 0, .int .i64 0, .string ⟨#[]⟩, .int .i64 0, .int .i64 0, .bool false, .int .i64 0, .slice none 0 0, .int .i64 0, .int .i64 0]) (w.heap.size + 1) 18 = true := ⟨by rw [cell_setRow_other _ _ _ _ (by show ¬ W5.heap.size = w.heap.size + 1; omega)]; exact z6, rowOf_is (n := 18) (setRow_heap _ _ _ _ _ _ er7) rfl⟩
  have e4 : (W7.drew.setRow (w.heap.size + 1) #[.int .i64 0, .int .i64 0, .int .i64 0, .string ⟨#[]⟩, .int .i64 0, .int .i64 0, .int .i64 0, .bool false, .int .i64 0, .int .i64 0, .string ⟨#[]⟩, .int .i64 0, .int .i64 0, .bool false, .int .i64 0, .slice none 0 0, .int .i64 0, .int .i64 0]).heap[w.heap.size + 1]? = some (.cells #[.int .i64 0, .int .i64 0, .int .i64 0, .string ⟨#[]⟩, .int .i64 0, .int .i64 0, .int .i64 0, .bool false, .int .i64 0, .int .i64 0, .string ⟨#[]⟩, .int .i64 0, .int .i64 0, .bool false, .int .i64 0, .slice none 0 0, .int .i64 0, .int .i64 0] 32 (0, 0)) := setRow_heap _ _ _ #[.int .i64 0, .int .i64 0, .int .i64 0, .string ⟨#[]⟩, .int .i64 0, .int .i64 0, .int .i64 0, .bool false, .int .i64 0, .int .i64 0, .string ⟨#[]⟩, .int .i64 0, .int .i64 0, .bool false, .int .i64 0, .slice none 0 0, .int .i64 0, .int .i64 0] _ _ er7
  have b4 : Below w.heap.size w (W7.drew.setRow (w.heap.size + 1) #[.int .i64 0, .int .i64 0, .int .i64 0, .string ⟨#[]⟩, .int .i64 0, .int .i64 0, .int .i64 0, .bool false, .int .i64 0, .int .i64 0, .string ⟨#[]⟩, .int .i64 0, .int .i64 0, .bool false, .int .i64 0, .slice none 0 0, .int .i64 0, .int .i64 0]) := below_row (g := w.heap.size + 1) C7.drew (by omega) #[.int .i64 0, .int .i64 0, .int .i64 0, .string ⟨#[]⟩, .int .i64 0, .int .i64 0, .int .i64 0, .bool false, .int .i64 0, .int .i64 0, .string ⟨#[]⟩, .int .i64 0, .int .i64 0, .bool false, .int .i64 0, .slice none 0 0, .int .i64 0, .int .i64 0]
  clear er7 er2 l7
  go_wp2_with fail
  go_region_held3 (fun X => X.cell? ⟨W5.heap.size, 6, none⟩ = some (.int .i64 E) ∧ rowOf X (w.heap.size + 1) 18 = true) (first | exact S0 | exact S1) (fail)
  go_wp2
  exact bodyPost_ret (results_cell_tmp Tryd.results8 _ _ (w.heap.size + 1) _ _ _ _ (by rfl) e4 Tryd.underlying32 (by rfl) info_Ask) rfl ⟨⟨.slice none 0 0, by rw [← HE.out]; rfl, Row1.nil _⟩, b4⟩
set_option maxHeartbeats 6400000 in
theorem parse_okblock (who line : ByteArray) (g : Gd) (la : Option Addr) (ln lc : Nat) (w : World) (hm : Mx w) (hwho : who.size ≤ 1000000000) (hline : line.size ≤ 1000000000) (hE : wordsE line = 0) (x1 x2 x3 x4 x5 x6 x7 : ByteArray) (hL : wordsL line = blockB :: [x1, x2, x3, x4, x5, x6, x7]) (he : blockE g x1 x2 x3 x4 x5 x6 x7 = 0) (hzones : g.zones ≤ 9223372036854775807) :
    Calls Tryd.prog 8 #[.string who, .string line, .agg #[.int .i64 g.zones, .int .i64 g.hours, .slice la ln lc, .int .i64 g.low, .int .i64 g.high]] w fun r w' => (∃ q, r = .returned (.tuple #[.agg (askV (blockA who x1 x2 x3 x4 x5 x6 x7) q), .int .i64 (0)]) ∧ Ints w' q (blockA who x1 x2 x3 x4 x5 x6 x7).bq) ∧ Below w.heap.size w w' := by
  have b1 := alloc2_below w (Obj.cells #[.int .i64 g.zones, .int .i64 g.hours, .slice la ln lc, .int .i64 g.low, .int .i64 g.high] 24) (Obj.cells #[.int .i64 0, .int .i64 0, .int .i64 0, .string ⟨#[]⟩, .int .i64 0, .int .i64 0, .int .i64 0, .bool false, .int .i64 0, .int .i64 0, .string ⟨#[]⟩, .int .i64 0, .int .i64 0, .bool false, .int .i64 0, .slice none 0 0, .int .i64 0, .int .i64 0] 32)
  have eg : ((w.alloc (Obj.cells #[.int .i64 g.zones, .int .i64 g.hours, .slice la ln lc, .int .i64 g.low, .int .i64 g.high] 24)).alloc (Obj.cells #[.int .i64 0, .int .i64 0, .int .i64 0, .string ⟨#[]⟩, .int .i64 0, .int .i64 0, .int .i64 0, .bool false, .int .i64 0, .int .i64 0, .string ⟨#[]⟩, .int .i64 0, .int .i64 0, .bool false, .int .i64 0, .slice none 0 0, .int .i64 0, .int .i64 0] 32)).heap[w.heap.size]? = some (Obj.cells #[.int .i64 g.zones, .int .i64 g.hours, .slice la ln lc, .int .i64 g.low, .int .i64 g.high] 24 (0, 0)) := blk_below (heap_alloc_last w _) ((Below.refl _ _).alloc (Nat.le_refl _) _)
  have er : ((w.alloc (Obj.cells #[.int .i64 g.zones, .int .i64 g.hours, .slice la ln lc, .int .i64 g.low, .int .i64 g.high] 24)).alloc (Obj.cells #[.int .i64 0, .int .i64 0, .int .i64 0, .string ⟨#[]⟩, .int .i64 0, .int .i64 0, .int .i64 0, .bool false, .int .i64 0, .int .i64 0, .string ⟨#[]⟩, .int .i64 0, .int .i64 0, .bool false, .int .i64 0, .slice none 0 0, .int .i64 0, .int .i64 0] 32)).heap[w.heap.size + 1]? = some (Obj.cells #[.int .i64 0, .int .i64 0, .int .i64 0, .string ⟨#[]⟩, .int .i64 0, .int .i64 0, .int .i64 0, .bool false, .int .i64 0, .int .i64 0, .string ⟨#[]⟩, .int .i64 0, .int .i64 0, .bool false, .int .i64 0, .slice none 0 0, .int .i64 0, .int .i64 0] 32 (0, 0)) := heap_alloc2_new _ _ _
  go_enter Tryd.func8, Tryd.ntmps8
  go_wp2_with fail
  generalize (w.alloc (Obj.cells #[.int .i64 g.zones, .int .i64 g.hours, .slice la ln lc, .int .i64 g.low, .int .i64 g.high] 24)).alloc (Obj.cells #[.int .i64 0, .int .i64 0, .int .i64 0, .string ⟨#[]⟩, .int .i64 0, .int .i64 0, .int .i64 0, .bool false, .int .i64 0, .int .i64 0, .string ⟨#[]⟩, .int .i64 0, .int .i64 0, .bool false, .int .i64 0, .slice none 0 0, .int .i64 0, .int .i64 0] 32) = W1 at *
  have hm1 := hm.below b1
  refine (words_any line W1 (by omega) hm1).mono ?_
  rintro r2 W2 ⟨⟨v, rfl, hv⟩, b2⟩
  have er2 := blk_below er b2
  have eg2 := blk_below eg b2
  have B2 := chain2 b1 b2
  have hm2 := hm1.below b2
  have hz2 := B2.size
  have hr2 := lt_of_block er2
  clear hm hm1 b1 b2 eg er
  rw [hE] at ⊢
  rw [hL] at hv
  obtain ⟨b, off, c, hv', hlc, hcm, hc, hx⟩ := hv.at 0 (by simp)
  simp only [Nat.add_zero, List.getElem_cons_zero] at hc hx
  subst hv'
  unfold maxLen at hcm
  have hbW := World.block_lt_of_cell? W2 _ hc
  simp only at hbW
  rw [show blockB = ⟨#[98, 108, 111, 99, 107]⟩ from rfl] at hc
  simp only [List.length_cons, List.length_nil, Nat.zero_add, Nat.reduceAdd] at hlc ⊢
  obtain ⟨n, hn⟩ : ∃ n : Nat, n = 8 := ⟨_, rfl⟩
  have hc1 : ¬ c = 1 := by omega
  have hsz : ∀ y ∈ [x1, x2, x3, x4, x5, x6, x7], y.size ≤ 200 := fun y hy => words_small hE (by rw [hL]; simp at hy ⊢; right; exact hy)
  have hrow : Strs W2 (.slice (some ⟨b, off + 1, none⟩) 7 (c - 1)) [x1, x2, x3, x4, x5, x6, x7] := by
    refine ⟨?_, fun y hy => hv.2 y (by simp at hy ⊢; right; exact hy)⟩
    have r1 := hv.1
    rw [show strV (blockB :: [x1, x2, x3, x4, x5, x6, x7]) = .string blockB :: strV [x1, x2, x3, x4, x5, x6, x7] from rfl] at r1
    have r2 := Row1.tail (L := strV [x1, x2, x3, x4, x5, x6, x7]) (c := c) (x := .string blockB) (b := b) (off := off) (by simpa [strV_len] using r1) (some ⟨b, off + 1, none⟩) (Or.inr rfl)
    rwa [strV_len] at r2
  have hK := fun v => kindOf_block v
  go_wp2_with fail
  refine (hK W2).mono ?_
  rintro r3 w3 ⟨rfl, hw3⟩
  rw [hw3]
  clear hw3 hK
  go_wp2_with fail
  refine (lineOf_block (.int .i64 0) (.int .i64 0) (.string ⟨#[]⟩) (.int .i64 0) (.int .i64 0) (.int .i64 0) (.bool false) (.int .i64 0) (.int .i64 0) (.string ⟨#[]⟩) (.int .i64 0) (.int .i64 0) (.bool false) (.int .i64 0) (.slice none 0 0) (.int .i64 0) (.int .i64 0) W2).mono ?_
  rintro r4 W4 ⟨rfl, hw4⟩
  have l4 : W4.heap[W2.heap.size + 1]? = some (Obj.cells #[.string ⟨#[]⟩, .int .i64 0, .int .i64 0, .bool false, .int .i64 0, .slice none 0 0, .int .i64 0, .int .i64 0] 73 (0, 0)) := by rw [hw4]; exact heap_alloc2_new _ _ _
  have b4 : Below W2.heap.size W2 W4 := by rw [hw4]; exact alloc2_below _ _ _
  clear hw4
  have hW := blockwords_empty W4 (W2.heap.size + 1) (.string ⟨#[]⟩) l4
  have m1 := m_block_words
  have m2 := m_block_fill
  have m3 := m_block_ask
  go_wp2_with fail
  refine hW.mono ?_
  rintro r5 W5 ⟨⟨a5, rfl⟩, b5⟩
  have l5 := blk_below l4 b5
  have B5 : Below W2.heap.size W2 W5 := chain2 b4 b5
  clear hW l4 b4 b5
  have eg5 := blk_below eg2 B5
  have y0 := blk_cell eg5 0 (.int .i64 g.zones) rfl
  have y1 := blk_cell eg5 1 (.int .i64 g.hours) rfl
  have y2 := blk_cell eg5 2 (.slice la ln lc) rfl
  have y3 := blk_cell eg5 3 (.int .i64 g.low) rfl
  have y4 := blk_cell eg5 4 (.int .i64 g.high) rfl
  have bd : Below W5.heap.size W5 W5.drew := ⟨rfl, rfl, rfl, Nat.le_refl _, fun _ _ => rfl⟩
  have HG : ∀ X, Below W5.heap.size W5 X → X.cell? ⟨w.heap.size, 0, none⟩ = some (.int .i64 g.zones) ∧ X.cell? ⟨w.heap.size, 1, none⟩ = some (.int .i64 g.hours) ∧ X.cell? ⟨w.heap.size, 2, none⟩ = some (.slice la ln lc) ∧ X.cell? ⟨w.heap.size, 3, none⟩ = some (.int .i64 g.low) ∧ X.cell? ⟨w.heap.size, 4, none⟩ = some (.int .i64 g.high) := fun X hX => ⟨(hX.cell (World.block_lt_of_cell? _ _ y0)).trans y0, (hX.cell (World.block_lt_of_cell? _ _ y1)).trans y1, (hX.cell (World.block_lt_of_cell? _ _ y2)).trans y2, (hX.cell (World.block_lt_of_cell? _ _ y3)).trans y3, (hX.cell (World.block_lt_of_cell? _ _ y4)).trans y4⟩
  clear y0 y1 y2 y3 y4
  go_wp2_with fail
  go_region_held3 (fun X => X.cell? ⟨w.heap.size, 0, none⟩ = some (.int .i64 g.zones) ∧ X.cell? ⟨w.heap.size, 1, none⟩ = some (.int .i64 g.hours) ∧ X.cell? ⟨w.heap.size, 2, none⟩ = some (.slice la ln lc) ∧ X.cell? ⟨w.heap.size, 3, none⟩ = some (.int .i64 g.low) ∧ X.cell? ⟨w.heap.size, 4, none⟩ = some (.int .i64 g.high)) (first | exact HG _ bd | exact HG _ (bd.alloc bd.size _)) (fail)
  have b6 : Below W5.heap.size W5 (W5.alloc (Obj.cells #[.slice (some ⟨b, off + 1, none⟩) 7 (c - 1), .int .i64 g.zones, .int .i64 g.hours, .slice la ln lc, .int .i64 g.low, .int .i64 g.high, .int .i64 0] 52)).drew := ((Below.refl _ _).alloc (Nat.le_refl _) _).drew
  have hx6 : (W5.alloc (Obj.cells #[.slice (some ⟨b, off + 1, none⟩) 7 (c - 1), .int .i64 g.zones, .int .i64 g.hours, .slice la ln lc, .int .i64 g.low, .int .i64 g.high, .int .i64 0] 52)).drew.heap[W5.heap.size]? = some (.cells #[.slice (some ⟨b, off + 1, none⟩) 7 (c - 1), .int .i64 g.zones, .int .i64 g.hours, .slice la ln lc, .int .i64 g.low, .int .i64 g.high, .int .i64 0] 52 (0, 0)) := heap_alloc_last W5 _
  generalize (W5.alloc (Obj.cells #[.slice (some ⟨b, off + 1, none⟩) 7 (c - 1), .int .i64 g.zones, .int .i64 g.hours, .slice la ln lc, .int .i64 g.low, .int .i64 g.high, .int .i64 0] 52)).drew = W6 at *
  have hs5 := B5.size
  have hlb5 := lt_of_block l5
  have hs6 := b6.size
  have B6 : Below W2.heap.size W2 W6 := chain2 B5 b6
  have l6 := blk_below l5 b6
  have F6 : FAt (fun x => W2.heap.size ≤ x) W6 W5.heap.size g (.slice la ln lc) [x1, x2, x3, x4, x5, x6, x7] 0 := ⟨_, hx6, hrow.below B6, fun b' off' n' c' e' => by
    simp only [Value.slice.injEq, Option.some.injEq, Addr.mk.injEq] at e'
    have := e'.1.1
    omega, hs5, hsz⟩
  have hm6 := hm2.below B6
  have hfill := blockfill_any (fun x => W2.heap.size ≤ x) W6 (W2.heap.size + 1) W5.heap.size g (.slice la ln lc) x1 x2 x3 x4 x5 x6 x7 0 (.string ⟨#[]⟩) (.int .i64 0) (.int .i64 0) (.bool false) (.int .i64 0) (.slice none 0 0) (.int .i64 0) (.int .i64 0) l6 (by omega) (by omega) F6 hzones hm6 (by omega) (by omega)
  clear HG bd hx6 hrow hsz F6 hm2 eg2 eg5 hv hc hx hlc hcm
  go_wp2_with fail
  refine hfill.mono ?_
  rintro r7 W7 ⟨rfl, ⟨qv, l7, i7, n7⟩, F7, K7⟩
  have B7 : Below W2.heap.size W2 W7 := B6.trans (K7.below (by omega) (fun b hb => by rcases hb with rfl | rfl <;> omega))
  have hs7 := K7.size
  have er7 := blk_below er2 B7
  have C7 : Below w.heap.size w W7 := chain2 B2 B7
  replace F7 : FAt (fun x => W2.heap.size ≤ x) W7 W5.heap.size g (.slice la ln lc) [] (blockE g x1 x2 x3 x4 x5 x6 x7) := F7
  have z6 := F7.grid.2.2.2.2.1
  clear hfill F7 K7 B6 b6
  obtain ⟨qa, qn, qc, hqv⟩ : ∃ a n c, qv = .slice a n c := by obtain ⟨a, c, hv, _⟩ := i7.slice; exact ⟨_, _, _, hv⟩
  subst hqv
  rw [he] at z6
  have hask := blockask_any W7 (W2.heap.size + 1) who (.string ⟨#[]⟩) (numR x1) (numR x2) (decide (x3 = buyB)) (numR x4) qa qn qc (numR x6) (numR x7) hwho l7
  clear l7
  go_wp2_with fail
  refine hask.mono ?_
  rintro r8 W8 ⟨rfl, K8⟩
  have B8 : Below W2.heap.size W7 W8 := K8.below (by omega) (fun b hb => by omega)
  have er8 : W8.heap[w.heap.size + 1]? = some (.cells #[.int .i64 0, .int .i64 0, .int .i64 0, .string ⟨#[]⟩, .int .i64 0, .int .i64 0, .int .i64 0, .bool false, .int .i64 0, .int .i64 0, .string ⟨#[]⟩, .int .i64 0, .int .i64 0, .bool false, .int .i64 0, .slice none 0 0, .int .i64 0, .int .i64 0] 32 (0, 0)) := (B8.block _ hr2).trans er7
  have C8 : Below w.heap.size w W8 := C7.trans (B8.mono (by omega))
  have hr := rowOf_is (n := 18) er8 rfl
  have e9 := setRow_heap _ _ _ #[.int .i64 3, .int .i64 0, .int .i64 0, .string ⟨#[]⟩, .int .i64 0, .int .i64 0, .int .i64 0, .bool false, .int .i64 0, .int .i64 0, .string who, .int .i64 (numR x1), .int .i64 (numR x2), .bool (decide (x3 = buyB)), .int .i64 (numR x4), .slice qa qn qc, .int .i64 (numR x6), .int .i64 (numR x7)] _ _ er8
  have b9 := below_row (g := w.heap.size + 1) C8 (by omega) #[.int .i64 3, .int .i64 0, .int .i64 0, .string ⟨#[]⟩, .int .i64 0, .int .i64 0, .int .i64 0, .bool false, .int .i64 0, .int .i64 0, .string who, .int .i64 (numR x1), .int .i64 (numR x2), .bool (decide (x3 = buyB)), .int .i64 (numR x4), .slice qa qn qc, .int .i64 (numR x6), .int .i64 (numR x7)]
  have I8 : Ints W8 (.slice qa qn qc) (numsL x5) := Row1.kx i7 K8 (fun b off n c e' k => by have := n7 b off n c e'; omega)
  have I9 : Ints (W8.setRow (w.heap.size + 1) #[.int .i64 3, .int .i64 0, .int .i64 0, .string ⟨#[]⟩, .int .i64 0, .int .i64 0, .int .i64 0, .bool false, .int .i64 0, .int .i64 0, .string who, .int .i64 (numR x1), .int .i64 (numR x2), .bool (decide (x3 = buyB)), .int .i64 (numR x4), .slice qa qn qc, .int .i64 (numR x6), .int .i64 (numR x7)]) (.slice qa qn qc) (numsL x5) := Row1.kx I8 (Kx.row (S := fun b => b = w.heap.size + 1) (g := w.heap.size + 1) (Kx.refl _ W8) rfl _) (fun b off n c e' k => by have := n7 b off n c e'; omega)
  clear I8 i7
  clear er7 er2 er8
  go_wp2
  exact bodyPost_ret (results_cell_tmp Tryd.results8 _ _ (w.heap.size + 1) _ _ _ _ (by rfl) e9 Tryd.underlying32 (by rfl) info_Ask) rfl ⟨⟨.slice qa qn qc, rfl, I9⟩, b9⟩
end Go.Proofs.YthhikmlbpagknaaDoor
