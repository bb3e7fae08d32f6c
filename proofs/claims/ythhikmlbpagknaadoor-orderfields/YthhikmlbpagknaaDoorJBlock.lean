/- The document's order: a Block. -/
import Derived.Test.YthhikmlbpagknaaDoorJStep
import Derived.Deep.RegionHeld3
namespace Go.Proofs.YthhikmlbpagknaaDoor
open Go.RowKit
set_option linter.unusedVariables false
set_option maxRecDepth 100000
set_option linter.unusedSimpArgs false

set_option maxHeartbeats 12800000 in
theorem jblock_any (who : ByteArray) (g : Gd) (la : Option Addr) (ln lc : Nat) (w : World) (v : Value) (x0 x1 x2 x3 x4 x5 x6 x7 : ByteArray) (hv : Strs w v [x0, x1, x2, x3, x4, x5, x6, x7]) (hsz : ∀ y ∈ [x1, x2, x3, x4, x5, x6, x7], y.size ≤ 200) (hzones : g.zones ≤ 9223372036854775807) (hhours : g.hours ≤ 9223372036854775807) :
    Calls Tryd.prog 20 #[.string who, v, .agg #[.int .i64 g.zones, .int .i64 g.hours, .slice la ln lc, .int .i64 g.low, .int .i64 g.high]] w fun r w' => (∃ q, r = .returned (.tuple #[.agg (askV (blockP who g x1 x2 x3 x4 x5 x6 x7).2 q), .int .i64 (blockP who g x1 x2 x3 x4 x5 x6 x7).1]) ∧ Ints w' q (blockP who g x1 x2 x3 x4 x5 x6 x7).2.bq ∧ Fresh w.heap.size q) ∧ Below w.heap.size w w' := by
  obtain ⟨b, of, c, hv', hlc, hcm, hc0, hx0⟩ := hv.at 0 (by simp)
  have hbW := World.block_lt_of_cell? w _ hc0
  subst hv'
  unfold maxLen at hcm
  simp only [List.length_cons, List.length_nil, Nat.zero_add, Nat.reduceAdd] at hlc
  have hz1 : wrap64 (max g.zones 0 - 1) = max g.zones 0 - 1 := wrap_in _ (by omega) (by omega)
  have hh1 : wrap64 (max g.hours 0 - 1) = max g.hours 0 - 1 := wrap_in _ (by omega) (by omega)
  have hz2 : IntKind.i64.wrap (max g.zones 0 - 1) = max g.zones 0 - 1 := by rw [IntWalk.i64_left]; exact hz1
  have hh2 : IntKind.i64.wrap (max g.hours 0 - 1) = max g.hours 0 - 1 := by rw [IntWalk.i64_left]; exact hh1
  have HC : ∀ X, Below w.heap.size w X → X.cell? ⟨b, of + 1, none⟩ = some (.string x1) ∧ X.cell? ⟨b, of + 2, none⟩ = some (.string x2) ∧ X.cell? ⟨b, of + 3, none⟩ = some (.string x3) ∧ X.cell? ⟨b, of + 4, none⟩ = some (.string x4) ∧ X.cell? ⟨b, of + 5, none⟩ = some (.string x5) ∧ X.cell? ⟨b, of + 6, none⟩ = some (.string x6) ∧ X.cell? ⟨b, of + 7, none⟩ = some (.string x7) := fun X hX => by
    have h := hv.below hX
    refine ⟨?_, ?_, ?_, ?_, ?_, ?_, ?_⟩
    · obtain ⟨b', o', c', e', -, -, hc', -⟩ := h.at 1 (by simp)
      simp only [Value.slice.injEq, Option.some.injEq, Addr.mk.injEq, and_true] at e'
      obtain ⟨⟨rfl, rfl⟩, -⟩ := e'
      exact hc'
    · obtain ⟨b', o', c', e', -, -, hc', -⟩ := h.at 2 (by simp)
      simp only [Value.slice.injEq, Option.some.injEq, Addr.mk.injEq, and_true] at e'
      obtain ⟨⟨rfl, rfl⟩, -⟩ := e'
      exact hc'
    · obtain ⟨b', o', c', e', -, -, hc', -⟩ := h.at 3 (by simp)
      simp only [Value.slice.injEq, Option.some.injEq, Addr.mk.injEq, and_true] at e'
      obtain ⟨⟨rfl, rfl⟩, -⟩ := e'
      exact hc'
    · obtain ⟨b', o', c', e', -, -, hc', -⟩ := h.at 4 (by simp)
      simp only [Value.slice.injEq, Option.some.injEq, Addr.mk.injEq, and_true] at e'
      obtain ⟨⟨rfl, rfl⟩, -⟩ := e'
      exact hc'
    · obtain ⟨b', o', c', e', -, -, hc', -⟩ := h.at 5 (by simp)
      simp only [Value.slice.injEq, Option.some.injEq, Addr.mk.injEq, and_true] at e'
      obtain ⟨⟨rfl, rfl⟩, -⟩ := e'
      exact hc'
    · obtain ⟨b', o', c', e', -, -, hc', -⟩ := h.at 6 (by simp)
      simp only [Value.slice.injEq, Option.some.injEq, Addr.mk.injEq, and_true] at e'
      obtain ⟨⟨rfl, rfl⟩, -⟩ := e'
      exact hc'
    · obtain ⟨b', o', c', e', -, -, hc', -⟩ := h.at 7 (by simp)
      simp only [Value.slice.injEq, Option.some.injEq, Addr.mk.injEq, and_true] at e'
      obtain ⟨⟨rfl, rfl⟩, -⟩ := e'
      exact hc'
  have s1 : x1.size ≤ 200 := hsz x1 (by simp)
  have s2 : x2.size ≤ 200 := hsz x2 (by simp)
  have s3 : x3.size ≤ 200 := hsz x3 (by simp)
  have s4 : x4.size ≤ 200 := hsz x4 (by simp)
  have s5 : x5.size ≤ 200 := hsz x5 (by simp)
  have s6 : x6.size ≤ 200 := hsz x6 (by simp)
  have s7 : x7.size ≤ 200 := hsz x7 (by simp)
  clear hv hsz hc0 hx0
  go_enter Tryd.func20, Tryd.ntmps20
  obtain ⟨W0, HW⟩ : ∃ W, Hid (W = ((w.alloc (Obj.cells #[.int .i64 g.zones, .int .i64 g.hours, .slice la ln lc, .int .i64 g.low, .int .i64 g.high] 24)).alloc (Obj.cells #[.int .i64 0, .int .i64 0, .int .i64 0, .string ⟨#[]⟩, .int .i64 0, .int .i64 0, .int .i64 0, .bool false, .int .i64 0, .int .i64 0, .string ⟨#[]⟩, .int .i64 0, .int .i64 0, .bool false, .int .i64 0, .slice none 0 0, .int .i64 0, .int .i64 0] 36)).alloc (Obj.cells #[.int .i64 3, .int .i64 0, .int .i64 0, .string ⟨#[]⟩, .int .i64 0, .int .i64 0, .int .i64 0, .bool false, .int .i64 0, .int .i64 0, .string who, .int .i64 0, .int .i64 0, .bool false, .int .i64 0, .slice none 0 0, .int .i64 0, .int .i64 0] 36)) := ⟨_, rfl⟩
  have b0 : Below w.heap.size w W0 := by rw [HW.out]; exact (alloc2_below w _ _).alloc (by simp; omega) _
  have eg : W0.heap[w.heap.size]? = some (Obj.cells #[.int .i64 g.zones, .int .i64 g.hours, .slice la ln lc, .int .i64 g.low, .int .i64 g.high] 24 (0, 0)) := by
    rw [HW.out]; exact blk_below (blk_below (heap_alloc_last w _) ((Below.refl _ _).alloc (Nat.le_refl _) _)) ((Below.refl _ _).alloc (Nat.le_refl _) _)
  have er : W0.heap[w.heap.size + 1]? = some (Obj.cells #[.int .i64 0, .int .i64 0, .int .i64 0, .string ⟨#[]⟩, .int .i64 0, .int .i64 0, .int .i64 0, .bool false, .int .i64 0, .int .i64 0, .string ⟨#[]⟩, .int .i64 0, .int .i64 0, .bool false, .int .i64 0, .slice none 0 0, .int .i64 0, .int .i64 0] 36 (0, 0)) := by
    rw [HW.out]; exact blk_below (heap_alloc2_new _ _ _) ((Below.refl _ _).alloc (Nat.le_refl _) _)
  have ea : W0.heap[w.heap.size + 1 + 1]? = some (Obj.cells #[.int .i64 3, .int .i64 0, .int .i64 0, .string ⟨#[]⟩, .int .i64 0, .int .i64 0, .int .i64 0, .bool false, .int .i64 0, .int .i64 0, .string who, .int .i64 0, .int .i64 0, .bool false, .int .i64 0, .slice none 0 0, .int .i64 0, .int .i64 0] 36 (0, 0)) := by
    rw [HW.out]
    have := heap_alloc2_new (w.alloc (Obj.cells #[.int .i64 g.zones, .int .i64 g.hours, .slice la ln lc, .int .i64 g.low, .int .i64 g.high] 24)) (Obj.cells #[.int .i64 0, .int .i64 0, .int .i64 0, .string ⟨#[]⟩, .int .i64 0, .int .i64 0, .int .i64 0, .bool false, .int .i64 0, .int .i64 0, .string ⟨#[]⟩, .int .i64 0, .int .i64 0, .bool false, .int .i64 0, .slice none 0 0, .int .i64 0, .int .i64 0] 36) (Obj.cells #[.int .i64 3, .int .i64 0, .int .i64 0, .string ⟨#[]⟩, .int .i64 0, .int .i64 0, .int .i64 0, .bool false, .int .i64 0, .int .i64 0, .string who, .int .i64 0, .int .i64 0, .bool false, .int .i64 0, .slice none 0 0, .int .i64 0, .int .i64 0] 36)
    rwa [show (w.alloc (Obj.cells #[.int .i64 g.zones, .int .i64 g.hours, .slice la ln lc, .int .i64 g.low, .int .i64 g.high] 24)).heap.size = w.heap.size + 1 by simp] at this
  have K0 : Kx (fun x => x = w.heap.size + 1 + 1) W0 W0 := Kx.refl _ _
  have hs0 := lt_of_block ea
  have HX : ∀ X, Kx (fun x => x = w.heap.size + 1 + 1) W0 X → Below w.heap.size w X ∧ X.heap[w.heap.size]? = some (Obj.cells #[.int .i64 g.zones, .int .i64 g.hours, .slice la ln lc, .int .i64 g.low, .int .i64 g.high] 24 (0, 0)) ∧ X.heap[w.heap.size + 1]? = some (Obj.cells #[.int .i64 0, .int .i64 0, .int .i64 0, .string ⟨#[]⟩, .int .i64 0, .int .i64 0, .int .i64 0, .bool false, .int .i64 0, .int .i64 0, .string ⟨#[]⟩, .int .i64 0, .int .i64 0, .bool false, .int .i64 0, .slice none 0 0, .int .i64 0, .int .i64 0] 36 (0, 0)) := fun X k => ⟨b0.trans (k.below (by omega) (fun x hx => by omega)), k.blk eg (by omega), k.blk er (by omega)⟩
  have HG : ∀ X, Kx (fun x => x = w.heap.size + 1 + 1) W0 X → X.cell? ⟨w.heap.size, 0, none⟩ = some (.int .i64 g.zones) ∧ X.cell? ⟨w.heap.size, 1, none⟩ = some (.int .i64 g.hours) ∧ X.cell? ⟨w.heap.size, 3, none⟩ = some (.int .i64 g.low) ∧ X.cell? ⟨w.heap.size, 4, none⟩ = some (.int .i64 g.high) := fun X k => ⟨blk_cell (HX X k).2.1 0 _ rfl, blk_cell (HX X k).2.1 1 _ rfl, blk_cell (HX X k).2.1 3 _ rfl, blk_cell (HX X k).2.1 4 _ rfl⟩
  have HZ : ∀ X, Kx (fun x => x = w.heap.size + 1 + 1) W0 X → rowOf X (w.heap.size + 1) 18 = true ∧ (X.setRow (w.heap.size + 1) #[.int .i64 0, .int .i64 0, .int .i64 0, .string ⟨#[]⟩, .int .i64 0, .int .i64 0, .int .i64 0, .bool false, .int .i64 0, .int .i64 0, .string ⟨#[]⟩, .int .i64 0, .int .i64 0, .bool false, .int .i64 0, .slice none 0 0, .int .i64 0, .int .i64 0]).heap[w.heap.size + 1]? = some (.cells #[.int .i64 0, .int .i64 0, .int .i64 0, .string ⟨#[]⟩, .int .i64 0, .int .i64 0, .int .i64 0, .bool false, .int .i64 0, .int .i64 0, .string ⟨#[]⟩, .int .i64 0, .int .i64 0, .bool false, .int .i64 0, .slice none 0 0, .int .i64 0, .int .i64 0] 36 (0, 0)) ∧ Below w.heap.size w (X.setRow (w.heap.size + 1) #[.int .i64 0, .int .i64 0, .int .i64 0, .string ⟨#[]⟩, .int .i64 0, .int .i64 0, .int .i64 0, .bool false, .int .i64 0, .int .i64 0, .string ⟨#[]⟩, .int .i64 0, .int .i64 0, .bool false, .int .i64 0, .slice none 0 0, .int .i64 0, .int .i64 0]) := fun X k => ⟨rowOf_is (n := 18) (HX X k).2.2 rfl, setRow_heap _ _ _ _ _ _ (HX X k).2.2, below_rowJ (HX X k).1 (by omega) _⟩
  clear eg er
  have cc := HC W0 b0
  rw [HW.out] at cc
  obtain ⟨y1, -, -, -, -, -, -⟩ := cc
  go_wp2_with (refine wpList_store_new rfl 36 _ _ rfl _ _ _ rfl (by simp) rfl 18 info_refAsk (by rfl) (by rfl) (by simp [Value.oneCell']) ?_)
  rw [← HW.out]
  clear HW y1
  refine (jnumber_any x1 1 1000 92 _ (by omega) (by omega)).mono ?_
  rintro r1 w1 ⟨rfl, b1⟩
  have k1 : Kx (fun x => x = w.heap.size + 1 + 1) W0 w1 := (K0.trans (Kx.of_below b1))
  have l1 := blk_below ea b1
  by_cases e1 : ¬ (numF x1 1 1000 92) = 0
  · have hEE : blockE g x1 x2 x3 x4 x5 x6 x7 = (numF x1 1 1000 92) := by unfold blockE; simp only [orE, if_true, if_neg e1, if_neg (show ¬ (numF x1 1 1000 92) = 0 from e1)]
    have HE := hid hEE
    have hb1 : ((numF x1 1 1000 92) != 0) = true := by simp [e1]
    obtain ⟨z1, z2, z3⟩ := HZ _ k1
    clear hEE
    generalize hgen : (numF x1 1 1000 92) = EE at *
    go_wp2
    exact bodyPost_ret (results_cell_tmp Tryd.results20 _ _ (w.heap.size + 1) _ _ _ _ (by rfl) z2 Tryd.underlying36 (by rfl) info_refAsk) rfl ⟨⟨.slice none 0 0, by rw [blockP_bad HE.out e1]; rfl, by rw [blockP_bad HE.out e1]; exact Row1.nil _, fresh_none _⟩, z3⟩
  simp only [Decidable.not_not] at e1
  rw [e1, show numV0 x1 1 1000 92 = numR x1 by unfold numV0; rw [e1, if_pos rfl]]
  have q1 := blk_cell l1 11 (.int .i64 0) rfl
  have fr1 := blk_free l1 11
  have L1 : (w1.setCell ⟨w.heap.size + 1 + 1, 11, none⟩ (.int .i64 (numR x1))).heap[w.heap.size + 1 + 1]? = some (.cells #[.int .i64 3, .int .i64 0, .int .i64 0, .string ⟨#[]⟩, .int .i64 0, .int .i64 0, .int .i64 0, .bool false, .int .i64 0, .int .i64 0, .string who, .int .i64 (numR x1), .int .i64 0, .bool false, .int .i64 0, .slice none 0 0, .int .i64 0, .int .i64 0] 36 (0, 0)) := blk_set l1
  have K1 : Kx (fun x => x = w.heap.size + 1 + 1) W0 (w1.setCell ⟨w.heap.size + 1 + 1, 11, none⟩ (.int .i64 (numR x1))) := Kx.set (S := fun x => x = w.heap.size + 1 + 1) (g := w.heap.size + 1 + 1) k1 rfl _
  have cc := HC _ (HX _ K1).1
  obtain ⟨c1, c2, c3, c4, c5, c6, c7⟩ := cc
  go_wp2_with fail
  generalize w1.setCell ⟨w.heap.size + 1 + 1, 11, none⟩ (.int .i64 (numR x1)) = W1 at *
  clear q1 fr1 l1 k1 c1 c2 c3 c4 c5 c6 c7
  obtain ⟨c1, c2, c3, c4, c5, c6, c7⟩ := HC _ (HX _ K1).1
  obtain ⟨g1, g2, g3, g4⟩ := HG _ K1
  have HS : ∀ X, Kx (fun x => x = w.heap.size + 1 + 1) W0 X → X.cell? ⟨b, of + 2, none⟩ = some (.string x2) ∧ X.cell? ⟨w.heap.size, 0, none⟩ = some (.int .i64 g.zones) := fun X k => ⟨(HC _ (HX _ k).1).2.1, (HG _ k).1⟩
  have bd : Below W1.heap.size W1 W1.drew := ⟨rfl, rfl, rfl, Nat.le_refl _, fun _ _ => rfl⟩
  have D0 : Kx (fun x => x = w.heap.size + 1 + 1) W0 W1.drew := K1.trans (Kx.of_below bd)
  clear c1 c2 c3 c4 c5 c6 c7 g1 g2 g3 g4
  go_region_held3 (fun X => X.cell? ⟨b, of + 2, none⟩ = some (.string x2) ∧ X.cell? ⟨w.heap.size, 0, none⟩ = some (.int .i64 g.zones)) (first | exact HS _ D0 | exact HS _ D2) (first
    | (go_at_call 18; refine (jnumber_any x2 0 (max g.zones 0 - 1) 93 _ (by omega) (by omega)).mono ?_; rintro r2 w2 ⟨rfl, b2⟩; have D2 := D0.trans (Kx.of_below b2)))
  have bb2 : Below W1.heap.size W1 w2 := chain2 bd b2
  clear HS D0
  have k2 : Kx (fun x => x = w.heap.size + 1 + 1) W0 w2 := (K1.trans (Kx.of_below bb2))
  have l2 := blk_below L1 bb2
  rw [show max g.zones 0 - 1 = top g.zones from rfl]
  by_cases e2 : ¬ (numF x2 0 (top g.zones) 93) = 0
  · have hEE : blockE g x1 x2 x3 x4 x5 x6 x7 = (numF x2 0 (top g.zones) 93) := by unfold blockE; simp only [orE, e1, if_true, if_neg e2, if_neg (show ¬ (numF x2 0 (top g.zones) 93) = 0 from e2)]
    have HE := hid hEE
    have hb1 : ((numF x2 0 (top g.zones) 93) != 0) = true := by simp [e2]
    obtain ⟨z1, z2, z3⟩ := HZ _ k2
    clear hEE
    generalize hgen : (numF x2 0 (top g.zones) 93) = EE at *
    go_wp2
    exact bodyPost_ret (results_cell_tmp Tryd.results20 _ _ (w.heap.size + 1) _ _ _ _ (by rfl) z2 Tryd.underlying36 (by rfl) info_refAsk) rfl ⟨⟨.slice none 0 0, by rw [blockP_bad HE.out e2]; rfl, by rw [blockP_bad HE.out e2]; exact Row1.nil _, fresh_none _⟩, z3⟩
  simp only [Decidable.not_not] at e2
  rw [e2, show numV0 x2 0 (top g.zones) 93 = numR x2 by unfold numV0; rw [e2, if_pos rfl]]
  have q2 := blk_cell l2 12 (.int .i64 0) rfl
  have fr2 := blk_free l2 12
  have L2 : (w2.setCell ⟨w.heap.size + 1 + 1, 12, none⟩ (.int .i64 (numR x2))).heap[w.heap.size + 1 + 1]? = some (.cells #[.int .i64 3, .int .i64 0, .int .i64 0, .string ⟨#[]⟩, .int .i64 0, .int .i64 0, .int .i64 0, .bool false, .int .i64 0, .int .i64 0, .string who, .int .i64 (numR x1), .int .i64 (numR x2), .bool false, .int .i64 0, .slice none 0 0, .int .i64 0, .int .i64 0] 36 (0, 0)) := blk_set l2
  have K2 : Kx (fun x => x = w.heap.size + 1 + 1) W0 (w2.setCell ⟨w.heap.size + 1 + 1, 12, none⟩ (.int .i64 (numR x2))) := Kx.set (S := fun x => x = w.heap.size + 1 + 1) (g := w.heap.size + 1 + 1) k2 rfl _
  have cc := HC _ (HX _ K2).1
  obtain ⟨c1, c2, c3, c4, c5, c6, c7⟩ := cc
  go_wp2_with fail
  generalize w2.setCell ⟨w.heap.size + 1 + 1, 12, none⟩ (.int .i64 (numR x2)) = W2 at *
  clear q2 fr2 l2 k2 c1 c2 c3 c4 c5 c6 c7
  obtain ⟨c1, c2, c3, c4, c5, c6, c7⟩ := HC _ (HX _ K2).1
  obtain ⟨g1, g2, g3, g4⟩ := HG _ K2
  go_wp2_with fail
  refine (jside2_any x3 _).mono ?_
  rintro r3 w3 ⟨rfl, b3⟩
  clear c1 c2 c3 c4 c5 c6 c7 g1 g2 g3 g4
  have k3 : Kx (fun x => x = w.heap.size + 1 + 1) W0 w3 := (K2.trans (Kx.of_below b3))
  have l3 := blk_below L2 b3
  by_cases e3 : ¬ (sideF x3) = 0
  · have hEE : blockE g x1 x2 x3 x4 x5 x6 x7 = (sideF x3) := by unfold blockE; simp only [orE, e1, e2, if_true, if_neg e3, if_neg (show ¬ (sideF x3) = 0 from e3)]
    have HE := hid hEE
    have hb1 : ((sideF x3) != 0) = true := by simp [e3]
    obtain ⟨z1, z2, z3⟩ := HZ _ k3
    clear hEE
    generalize hgen : (sideF x3) = EE at *
    go_wp2
    exact bodyPost_ret (results_cell_tmp Tryd.results20 _ _ (w.heap.size + 1) _ _ _ _ (by rfl) z2 Tryd.underlying36 (by rfl) info_refAsk) rfl ⟨⟨.slice none 0 0, by rw [blockP_bad HE.out e3]; rfl, by rw [blockP_bad HE.out e3]; exact Row1.nil _, fresh_none _⟩, z3⟩
  simp only [Decidable.not_not] at e3
  rw [e3]
  have q3 := blk_cell l3 13 (.bool false) rfl
  have fr3 := blk_free l3 13
  have L3 : (w3.setCell ⟨w.heap.size + 1 + 1, 13, none⟩ (.bool (decide (x3 = buyB)))).heap[w.heap.size + 1 + 1]? = some (.cells #[.int .i64 3, .int .i64 0, .int .i64 0, .string ⟨#[]⟩, .int .i64 0, .int .i64 0, .int .i64 0, .bool false, .int .i64 0, .int .i64 0, .string who, .int .i64 (numR x1), .int .i64 (numR x2), .bool (decide (x3 = buyB)), .int .i64 0, .slice none 0 0, .int .i64 0, .int .i64 0] 36 (0, 0)) := blk_set l3
  have K3 : Kx (fun x => x = w.heap.size + 1 + 1) W0 (w3.setCell ⟨w.heap.size + 1 + 1, 13, none⟩ (.bool (decide (x3 = buyB)))) := Kx.set (S := fun x => x = w.heap.size + 1 + 1) (g := w.heap.size + 1 + 1) k3 rfl _
  have cc := HC _ (HX _ K3).1
  obtain ⟨c1, c2, c3, c4, c5, c6, c7⟩ := cc
  go_wp2_with fail
  generalize w3.setCell ⟨w.heap.size + 1 + 1, 13, none⟩ (.bool (decide (x3 = buyB))) = W3 at *
  clear q3 fr3 l3 k3 c1 c2 c3 c4 c5 c6 c7
  obtain ⟨c1, c2, c3, c4, c5, c6, c7⟩ := HC _ (HX _ K3).1
  obtain ⟨g1, g2, g3, g4⟩ := HG _ K3
  have HS : ∀ X, Kx (fun x => x = w.heap.size + 1 + 1) W0 X → X.cell? ⟨b, of + 4, none⟩ = some (.string x4) ∧ X.cell? ⟨w.heap.size, 3, none⟩ = some (.int .i64 g.low) ∧ X.cell? ⟨w.heap.size, 4, none⟩ = some (.int .i64 g.high) := fun X k => ⟨(HC _ (HX _ k).1).2.2.2.1, (HG _ k).2.2.1, (HG _ k).2.2.2⟩
  have bd : Below W3.heap.size W3 W3.drew := ⟨rfl, rfl, rfl, Nat.le_refl _, fun _ _ => rfl⟩
  have D0 : Kx (fun x => x = w.heap.size + 1 + 1) W0 W3.drew := K3.trans (Kx.of_below bd)
  clear c1 c2 c3 c4 c5 c6 c7 g1 g2 g3 g4
  go_region_held3 (fun X => X.cell? ⟨b, of + 4, none⟩ = some (.string x4) ∧ X.cell? ⟨w.heap.size, 3, none⟩ = some (.int .i64 g.low) ∧ X.cell? ⟨w.heap.size, 4, none⟩ = some (.int .i64 g.high)) (first | exact HS _ D0 | exact HS _ D4) (first
    | (go_at_call 18; refine (jnumber_any x4 g.low g.high 96 _ (by omega) (by omega)).mono ?_; rintro r4 w4 ⟨rfl, b4⟩; have D4 := D0.trans (Kx.of_below b4)))
  have bb4 : Below W3.heap.size W3 w4 := chain2 bd b4
  clear HS D0
  have k4 : Kx (fun x => x = w.heap.size + 1 + 1) W0 w4 := (K3.trans (Kx.of_below bb4))
  have l4 := blk_below L3 bb4
  by_cases e4 : ¬ (numF x4 g.low g.high 96) = 0
  · have hEE : blockE g x1 x2 x3 x4 x5 x6 x7 = (numF x4 g.low g.high 96) := by unfold blockE; simp only [orE, e1, e2, e3, if_true, if_neg e4, if_neg (show ¬ (numF x4 g.low g.high 96) = 0 from e4)]
    have HE := hid hEE
    have hb1 : ((numF x4 g.low g.high 96) != 0) = true := by simp [e4]
    obtain ⟨z1, z2, z3⟩ := HZ _ k4
    clear hEE
    generalize hgen : (numF x4 g.low g.high 96) = EE at *
    go_wp2
    exact bodyPost_ret (results_cell_tmp Tryd.results20 _ _ (w.heap.size + 1) _ _ _ _ (by rfl) z2 Tryd.underlying36 (by rfl) info_refAsk) rfl ⟨⟨.slice none 0 0, by rw [blockP_bad HE.out e4]; rfl, by rw [blockP_bad HE.out e4]; exact Row1.nil _, fresh_none _⟩, z3⟩
  simp only [Decidable.not_not] at e4
  rw [e4, show numV0 x4 g.low g.high 96 = numR x4 by unfold numV0; rw [e4, if_pos rfl]]
  have q4 := blk_cell l4 14 (.int .i64 0) rfl
  have fr4 := blk_free l4 14
  have L4 : (w4.setCell ⟨w.heap.size + 1 + 1, 14, none⟩ (.int .i64 (numR x4))).heap[w.heap.size + 1 + 1]? = some (.cells #[.int .i64 3, .int .i64 0, .int .i64 0, .string ⟨#[]⟩, .int .i64 0, .int .i64 0, .int .i64 0, .bool false, .int .i64 0, .int .i64 0, .string who, .int .i64 (numR x1), .int .i64 (numR x2), .bool (decide (x3 = buyB)), .int .i64 (numR x4), .slice none 0 0, .int .i64 0, .int .i64 0] 36 (0, 0)) := blk_set l4
  have K4 : Kx (fun x => x = w.heap.size + 1 + 1) W0 (w4.setCell ⟨w.heap.size + 1 + 1, 14, none⟩ (.int .i64 (numR x4))) := Kx.set (S := fun x => x = w.heap.size + 1 + 1) (g := w.heap.size + 1 + 1) k4 rfl _
  have cc := HC _ (HX _ K4).1
  obtain ⟨c1, c2, c3, c4, c5, c6, c7⟩ := cc
  go_wp2_with fail
  generalize w4.setCell ⟨w.heap.size + 1 + 1, 14, none⟩ (.int .i64 (numR x4)) = W4 at *
  clear q4 fr4 l4 k4 c1 c2 c3 c4 c5 c6 c7
  obtain ⟨c1, c2, c3, c4, c5, c6, c7⟩ := HC _ (HX _ K4).1
  obtain ⟨g1, g2, g3, g4⟩ := HG _ K4
  have HS : ∀ X, Kx (fun x => x = w.heap.size + 1 + 1) W0 X → X.cell? ⟨b, of + 5, none⟩ = some (.string x5) ∧ X.cell? ⟨w.heap.size, 1, none⟩ = some (.int .i64 g.hours) := fun X k => ⟨(HC _ (HX _ k).1).2.2.2.2.1, (HG _ k).2.1⟩
  have bd : Below W4.heap.size W4 W4.drew := ⟨rfl, rfl, rfl, Nat.le_refl _, fun _ _ => rfl⟩
  have D0 : Kx (fun x => x = w.heap.size + 1 + 1) W0 W4.drew := K4.trans (Kx.of_below bd)
  clear c1 c2 c3 c4 c5 c6 c7 g1 g2 g3 g4
  go_region_held3 (fun X => X.cell? ⟨b, of + 5, none⟩ = some (.string x5) ∧ X.cell? ⟨w.heap.size, 1, none⟩ = some (.int .i64 g.hours)) (first | exact HS _ D0 | exact HS _ D5) (first
    | (go_at_call 30; refine (jquant_any x5 g.hours _ (by omega)).mono ?_; rintro r5 w5 ⟨⟨qv, rfl, i5, n5⟩, b5⟩; have D5 := D0.trans (Kx.of_below b5)))
  have bb5 : Below W4.heap.size W4 w5 := chain2 bd b5
  clear HS D0
  have k5 : Kx (fun x => x = w.heap.size + 1 + 1) W0 w5 := (K4.trans (Kx.of_below bb5))
  have l5 := blk_below L4 bb5
  obtain ⟨qa, qn, qc, hqv⟩ : ∃ a n c, qv = .slice a n c := by obtain ⟨a, c, hv, _⟩ := i5.slice; exact ⟨_, _, _, hv⟩
  subst hqv
  by_cases e5 : ¬ (qF x5 g.hours) = 0
  · have hEE : blockE g x1 x2 x3 x4 x5 x6 x7 = (qF x5 g.hours) := by unfold blockE; simp only [orE, e1, e2, e3, e4, if_true, if_neg e5, if_neg (show ¬ (qF x5 g.hours) = 0 from e5)]
    have HE := hid hEE
    have hb1 : ((qF x5 g.hours) != 0) = true := by simp [e5]
    obtain ⟨z1, z2, z3⟩ := HZ _ k5
    clear hEE
    generalize hgen : (qF x5 g.hours) = EE at *
    go_wp2
    exact bodyPost_ret (results_cell_tmp Tryd.results20 _ _ (w.heap.size + 1) _ _ _ _ (by rfl) z2 Tryd.underlying36 (by rfl) info_refAsk) rfl ⟨⟨.slice none 0 0, by rw [blockP_bad HE.out e5]; rfl, by rw [blockP_bad HE.out e5]; exact Row1.nil _, fresh_none _⟩, z3⟩
  simp only [Decidable.not_not] at e5
  rw [e5]
  replace i5 : Ints w5 (.slice qa qn qc) (numsL x5) := by have := i5; rwa [show qV x5 g.hours = numsL x5 by unfold qV; rw [e5, if_pos rfl]] at this
  have q5 := blk_cell l5 15 (.slice none 0 0) rfl
  have fr5 := blk_free l5 15
  have L5 : (w5.setCell ⟨w.heap.size + 1 + 1, 15, none⟩ (.slice qa qn qc)).heap[w.heap.size + 1 + 1]? = some (.cells #[.int .i64 3, .int .i64 0, .int .i64 0, .string ⟨#[]⟩, .int .i64 0, .int .i64 0, .int .i64 0, .bool false, .int .i64 0, .int .i64 0, .string who, .int .i64 (numR x1), .int .i64 (numR x2), .bool (decide (x3 = buyB)), .int .i64 (numR x4), .slice qa qn qc, .int .i64 0, .int .i64 0] 36 (0, 0)) := blk_set l5
  have K5 : Kx (fun x => x = w.heap.size + 1 + 1) W0 (w5.setCell ⟨w.heap.size + 1 + 1, 15, none⟩ (.slice qa qn qc)) := Kx.set (S := fun x => x = w.heap.size + 1 + 1) (g := w.heap.size + 1 + 1) k5 rfl _
  have hsq : w.heap.size + 1 + 1 < W4.heap.size := lt_of_block L4
  have N5 : Fresh (w.heap.size + 1 + 1 + 1) (.slice qa qn qc) := n5.mono (by have := bd.size; omega)
  have I5 : Ints (w5.setCell ⟨w.heap.size + 1 + 1, 15, none⟩ (.slice qa qn qc)) (.slice qa qn qc) (numsL x5) := Row1.kx i5 (Kx.set (S := fun x => x = w.heap.size + 1 + 1) (g := w.heap.size + 1 + 1) (Kx.refl _ w5) rfl _) (fun b off n c e' k => by have := N5 b off n c e'; omega)
  have cc := HC _ (HX _ K5).1
  obtain ⟨c1, c2, c3, c4, c5, c6, c7⟩ := cc
  go_wp2_with fail
  generalize w5.setCell ⟨w.heap.size + 1 + 1, 15, none⟩ (.slice qa qn qc) = W5 at *
  clear q5 fr5 l5 k5 c1 c2 c3 c4 c5 c6 c7
  obtain ⟨c1, c2, c3, c4, c5, c6, c7⟩ := HC _ (HX _ K5).1
  obtain ⟨g1, g2, g3, g4⟩ := HG _ K5
  go_wp2_with fail
  refine (jnumber_any x6 0 1000 92 _ (by omega) (by omega)).mono ?_
  rintro r6 w6 ⟨rfl, b6⟩
  clear c1 c2 c3 c4 c5 c6 c7 g1 g2 g3 g4
  have k6 : Kx (fun x => x = w.heap.size + 1 + 1) W0 w6 := (K5.trans (Kx.of_below b6))
  have l6 := blk_below L5 b6
  by_cases e6 : ¬ (numF x6 0 1000 92) = 0
  · have hEE : blockE g x1 x2 x3 x4 x5 x6 x7 = (numF x6 0 1000 92) := by unfold blockE; simp only [orE, e1, e2, e3, e4, e5, if_true, if_neg e6, if_neg (show ¬ (numF x6 0 1000 92) = 0 from e6)]
    have HE := hid hEE
    have hb1 : ((numF x6 0 1000 92) != 0) = true := by simp [e6]
    obtain ⟨z1, z2, z3⟩ := HZ _ k6
    clear hEE
    generalize hgen : (numF x6 0 1000 92) = EE at *
    go_wp2
    exact bodyPost_ret (results_cell_tmp Tryd.results20 _ _ (w.heap.size + 1) _ _ _ _ (by rfl) z2 Tryd.underlying36 (by rfl) info_refAsk) rfl ⟨⟨.slice none 0 0, by rw [blockP_bad HE.out e6]; rfl, by rw [blockP_bad HE.out e6]; exact Row1.nil _, fresh_none _⟩, z3⟩
  simp only [Decidable.not_not] at e6
  rw [e6, show numV0 x6 0 1000 92 = numR x6 by unfold numV0; rw [e6, if_pos rfl]]
  have q6 := blk_cell l6 16 (.int .i64 0) rfl
  have fr6 := blk_free l6 16
  have L6 : (w6.setCell ⟨w.heap.size + 1 + 1, 16, none⟩ (.int .i64 (numR x6))).heap[w.heap.size + 1 + 1]? = some (.cells #[.int .i64 3, .int .i64 0, .int .i64 0, .string ⟨#[]⟩, .int .i64 0, .int .i64 0, .int .i64 0, .bool false, .int .i64 0, .int .i64 0, .string who, .int .i64 (numR x1), .int .i64 (numR x2), .bool (decide (x3 = buyB)), .int .i64 (numR x4), .slice qa qn qc, .int .i64 (numR x6), .int .i64 0] 36 (0, 0)) := blk_set l6
  have K6 : Kx (fun x => x = w.heap.size + 1 + 1) W0 (w6.setCell ⟨w.heap.size + 1 + 1, 16, none⟩ (.int .i64 (numR x6))) := Kx.set (S := fun x => x = w.heap.size + 1 + 1) (g := w.heap.size + 1 + 1) k6 rfl _
  have I6 : Ints (w6.setCell ⟨w.heap.size + 1 + 1, 16, none⟩ (.int .i64 (numR x6))) (.slice qa qn qc) (numsL x5) := Row1.kx (I5.below b6) (Kx.set (S := fun x => x = w.heap.size + 1 + 1) (g := w.heap.size + 1 + 1) (Kx.refl _ w6) rfl _) (fun b off n c e' k => by have := N5 b off n c e'; omega)
  have cc := HC _ (HX _ K6).1
  obtain ⟨c1, c2, c3, c4, c5, c6, c7⟩ := cc
  go_wp2_with fail
  generalize w6.setCell ⟨w.heap.size + 1 + 1, 16, none⟩ (.int .i64 (numR x6)) = W6 at *
  clear q6 fr6 l6 k6 c1 c2 c3 c4 c5 c6 c7
  obtain ⟨c1, c2, c3, c4, c5, c6, c7⟩ := HC _ (HX _ K6).1
  obtain ⟨g1, g2, g3, g4⟩ := HG _ K6
  go_wp2_with fail
  refine (jnumber_any x7 0 9 92 _ (by omega) (by omega)).mono ?_
  rintro r7 w7 ⟨rfl, b7⟩
  clear c1 c2 c3 c4 c5 c6 c7 g1 g2 g3 g4
  have k7 : Kx (fun x => x = w.heap.size + 1 + 1) W0 w7 := (K6.trans (Kx.of_below b7))
  have l7 := blk_below L6 b7
  by_cases e7 : ¬ (numF x7 0 9 92) = 0
  · have hEE : blockE g x1 x2 x3 x4 x5 x6 x7 = (numF x7 0 9 92) := by unfold blockE; simp only [orE, e1, e2, e3, e4, e5, e6, if_true, if_neg e7, if_neg (show ¬ (numF x7 0 9 92) = 0 from e7)]
    have HE := hid hEE
    have hb1 : ((numF x7 0 9 92) != 0) = true := by simp [e7]
    obtain ⟨z1, z2, z3⟩ := HZ _ k7
    clear hEE
    generalize hgen : (numF x7 0 9 92) = EE at *
    go_wp2
    exact bodyPost_ret (results_cell_tmp Tryd.results20 _ _ (w.heap.size + 1) _ _ _ _ (by rfl) z2 Tryd.underlying36 (by rfl) info_refAsk) rfl ⟨⟨.slice none 0 0, by rw [blockP_bad HE.out e7]; rfl, by rw [blockP_bad HE.out e7]; exact Row1.nil _, fresh_none _⟩, z3⟩
  simp only [Decidable.not_not] at e7
  rw [e7, show numV0 x7 0 9 92 = numR x7 by unfold numV0; rw [e7, if_pos rfl]]
  have q7 := blk_cell l7 17 (.int .i64 0) rfl
  have fr7 := blk_free l7 17
  have L7 : (w7.setCell ⟨w.heap.size + 1 + 1, 17, none⟩ (.int .i64 (numR x7))).heap[w.heap.size + 1 + 1]? = some (.cells #[.int .i64 3, .int .i64 0, .int .i64 0, .string ⟨#[]⟩, .int .i64 0, .int .i64 0, .int .i64 0, .bool false, .int .i64 0, .int .i64 0, .string who, .int .i64 (numR x1), .int .i64 (numR x2), .bool (decide (x3 = buyB)), .int .i64 (numR x4), .slice qa qn qc, .int .i64 (numR x6), .int .i64 (numR x7)] 36 (0, 0)) := blk_set l7
  have K7 : Kx (fun x => x = w.heap.size + 1 + 1) W0 (w7.setCell ⟨w.heap.size + 1 + 1, 17, none⟩ (.int .i64 (numR x7))) := Kx.set (S := fun x => x = w.heap.size + 1 + 1) (g := w.heap.size + 1 + 1) k7 rfl _
  have I7 : Ints (w7.setCell ⟨w.heap.size + 1 + 1, 17, none⟩ (.int .i64 (numR x7))) (.slice qa qn qc) (numsL x5) := Row1.kx (I6.below b7) (Kx.set (S := fun x => x = w.heap.size + 1 + 1) (g := w.heap.size + 1 + 1) (Kx.refl _ w7) rfl _) (fun b off n c e' k => by have := N5 b off n c e'; omega)
  have hEE : blockE g x1 x2 x3 x4 x5 x6 x7 = 0 := by unfold blockE; simp only [orE, e1, e2, e3, e4, e5, e6, e7, if_true]
  have HE := hid hEE
  clear hEE
  have d0 := blk_cell L7 0 (.int .i64 3) rfl
  have d1 := blk_cell L7 1 (.int .i64 0) rfl
  have d2 := blk_cell L7 2 (.int .i64 0) rfl
  have d3 := blk_cell L7 3 (.string ⟨#[]⟩) rfl
  have d4 := blk_cell L7 4 (.int .i64 0) rfl
  have d5 := blk_cell L7 5 (.int .i64 0) rfl
  have d6 := blk_cell L7 6 (.int .i64 0) rfl
  have d7 := blk_cell L7 7 (.bool false) rfl
  have d8 := blk_cell L7 8 (.int .i64 0) rfl
  have d9 := blk_cell L7 9 (.int .i64 0) rfl
  have d10 := blk_cell L7 10 (.string who) rfl
  have d11 := blk_cell L7 11 (.int .i64 (numR x1)) rfl
  have d12 := blk_cell L7 12 (.int .i64 (numR x2)) rfl
  have d13 := blk_cell L7 13 (.bool (decide (x3 = buyB))) rfl
  have d14 := blk_cell L7 14 (.int .i64 (numR x4)) rfl
  have d15 := blk_cell L7 15 (.slice qa qn qc) rfl
  have d16 := blk_cell L7 16 (.int .i64 (numR x6)) rfl
  have d17 := blk_cell L7 17 (.int .i64 (numR x7)) rfl
  have z1 := (HZ _ K7).1
  have er9 := (HX _ K7).2.2
  have z2 := setRow_heap _ _ _ #[.int .i64 3, .int .i64 0, .int .i64 0, .string ⟨#[]⟩, .int .i64 0, .int .i64 0, .int .i64 0, .bool false, .int .i64 0, .int .i64 0, .string who, .int .i64 (numR x1), .int .i64 (numR x2), .bool (decide (x3 = buyB)), .int .i64 (numR x4), .slice qa qn qc, .int .i64 (numR x6), .int .i64 (numR x7)] _ _ er9
  have z3 := below_rowJ (g := w.heap.size + 1) (HX _ K7).1 (by omega) #[.int .i64 3, .int .i64 0, .int .i64 0, .string ⟨#[]⟩, .int .i64 0, .int .i64 0, .int .i64 0, .bool false, .int .i64 0, .int .i64 0, .string who, .int .i64 (numR x1), .int .i64 (numR x2), .bool (decide (x3 = buyB)), .int .i64 (numR x4), .slice qa qn qc, .int .i64 (numR x6), .int .i64 (numR x7)]
  have I9 : Ints ((w7.setCell ⟨w.heap.size + 1 + 1, 17, none⟩ (.int .i64 (numR x7))).setRow (w.heap.size + 1) #[.int .i64 3, .int .i64 0, .int .i64 0, .string ⟨#[]⟩, .int .i64 0, .int .i64 0, .int .i64 0, .bool false, .int .i64 0, .int .i64 0, .string who, .int .i64 (numR x1), .int .i64 (numR x2), .bool (decide (x3 = buyB)), .int .i64 (numR x4), .slice qa qn qc, .int .i64 (numR x6), .int .i64 (numR x7)]) (.slice qa qn qc) (numsL x5) := Row1.kx I7 (Kx.row (S := fun x => x = w.heap.size + 1) (g := w.heap.size + 1) (Kx.refl _ _) rfl _) (fun b off n c e' k => by have := N5 b off n c e'; omega)
  clear er9 L7
  go_wp2
  exact bodyPost_ret (results_cell_tmp Tryd.results20 _ _ (w.heap.size + 1) _ _ _ _ (by rfl) z2 Tryd.underlying36 (by rfl) info_refAsk) rfl ⟨⟨.slice qa qn qc, by rw [blockP_ok HE.out]; rfl, by rw [blockP_ok HE.out]; exact I9, N5.mono (by omega)⟩, z3⟩
end Go.Proofs.YthhikmlbpagknaaDoor
