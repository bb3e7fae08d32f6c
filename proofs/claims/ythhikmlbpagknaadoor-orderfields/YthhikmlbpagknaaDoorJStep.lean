/- The document's order: a Step. -/
import Derived.Test.YthhikmlbpagknaaDoorJField
import Derived.Deep.RegionHeld3
namespace Go.Proofs.YthhikmlbpagknaaDoor
open Go.RowKit
set_option linter.unusedVariables false
set_option maxRecDepth 100000
set_option linter.unusedSimpArgs false

def stepP (who : ByteArray) (g : Gd) (x1 x2 x3 x4 x5 x6 : ByteArray) : Int × Ak := if stepE g x1 x2 x3 x4 x5 x6 = 0 then (0, stepA who x1 x2 x3 x4 x5 x6) else (stepE g x1 x2 x3 x4 x5 x6, ak0)
theorem stepP_bad {who : ByteArray} {g : Gd} {x1 x2 x3 x4 x5 x6 : ByteArray} {E : Int} (h : stepE g x1 x2 x3 x4 x5 x6 = E) (h0 : ¬ E = 0) : stepP who g x1 x2 x3 x4 x5 x6 = (E, ak0) := by unfold stepP; rw [h, if_neg h0]
theorem stepP_ok {who : ByteArray} {g : Gd} {x1 x2 x3 x4 x5 x6 : ByteArray} (h : stepE g x1 x2 x3 x4 x5 x6 = 0) : stepP who g x1 x2 x3 x4 x5 x6 = (0, stepA who x1 x2 x3 x4 x5 x6) := by unfold stepP; rw [if_pos h]
def blockP (who : ByteArray) (g : Gd) (x1 x2 x3 x4 x5 x6 x7 : ByteArray) : Int × Ak := if blockE g x1 x2 x3 x4 x5 x6 x7 = 0 then (0, blockA who x1 x2 x3 x4 x5 x6 x7) else (blockE g x1 x2 x3 x4 x5 x6 x7, ak0)
theorem blockP_bad {who : ByteArray} {g : Gd} {x1 x2 x3 x4 x5 x6 x7 : ByteArray} {E : Int} (h : blockE g x1 x2 x3 x4 x5 x6 x7 = E) (h0 : ¬ E = 0) : blockP who g x1 x2 x3 x4 x5 x6 x7 = (E, ak0) := by unfold blockP; rw [h, if_neg h0]
theorem blockP_ok {who : ByteArray} {g : Gd} {x1 x2 x3 x4 x5 x6 x7 : ByteArray} (h : blockE g x1 x2 x3 x4 x5 x6 x7 = 0) : blockP who g x1 x2 x3 x4 x5 x6 x7 = (0, blockA who x1 x2 x3 x4 x5 x6 x7) := by unfold blockP; rw [if_pos h]
theorem below_rowJ {B g : Nat} {w0 w : World} (hb : Below B w0 w) (hBg : B ≤ g) (cs : Array Value) : Below B w0 (w.setRow g cs) :=
  ⟨hb.os, hb.tape, hb.output, by rw [size_setRow]; exact hb.size, fun i hi => by rw [setRow_other _ _ _ _ (by omega)]; exact hb.block i hi⟩
theorem jside2_any (x : ByteArray) (w : World) : Calls Tryd.prog 29 #[.string x] w fun r w' => r = .returned (.tuple #[.bool (decide (x = buyB)), .int .i64 (sideF x)]) ∧ Below w.heap.size w w' := by
  refine (jside_any x w).mono ?_
  rintro r w' ⟨rfl, rfl⟩
  exact ⟨rfl, Below.refl _ _⟩
theorem info_refAsk : (Tryd.prog.info? 36).map (·.size) = some 18 := by kernel_rfl
set_option maxHeartbeats 12800000 in
theorem jstep_any (who : ByteArray) (g : Gd) (la : Option Addr) (ln lc : Nat) (w : World) (v : Value) (x0 x1 x2 x3 x4 x5 x6 : ByteArray) (hv : Strs w v [x0, x1, x2, x3, x4, x5, x6]) (hsz : ∀ y ∈ [x1, x2, x3, x4, x5, x6], y.size ≤ 200) (hzones : g.zones ≤ 9223372036854775807) (hhours : g.hours ≤ 9223372036854775807) :
    Calls Tryd.prog 19 #[.string who, v, .agg #[.int .i64 g.zones, .int .i64 g.hours, .slice la ln lc, .int .i64 g.low, .int .i64 g.high]] w fun r w' => (∃ q, r = .returned (.tuple #[.agg (askV (stepP who g x1 x2 x3 x4 x5 x6).2 q), .int .i64 (stepP who g x1 x2 x3 x4 x5 x6).1]) ∧ Ints w' q (stepP who g x1 x2 x3 x4 x5 x6).2.bq ∧ Fresh w.heap.size q) ∧ Below w.heap.size w w' := by
  obtain ⟨b, of, c, hv', hlc, hcm, hc0, hx0⟩ := hv.at 0 (by simp)
  have hbW := World.block_lt_of_cell? w _ hc0
  subst hv'
  unfold maxLen at hcm
  simp only [List.length_cons, List.length_nil, Nat.zero_add, Nat.reduceAdd] at hlc
  have hz1 : wrap64 (max g.zones 0 - 1) = max g.zones 0 - 1 := wrap_in _ (by omega) (by omega)
  have hh1 : wrap64 (max g.hours 0 - 1) = max g.hours 0 - 1 := wrap_in _ (by omega) (by omega)
  have hz2 : IntKind.i64.wrap (max g.zones 0 - 1) = max g.zones 0 - 1 := by rw [IntWalk.i64_left]; exact hz1
  have hh2 : IntKind.i64.wrap (max g.hours 0 - 1) = max g.hours 0 - 1 := by rw [IntWalk.i64_left]; exact hh1
  have HC : ∀ X, Below w.heap.size w X → X.cell? ⟨b, of + 1, none⟩ = some (.string x1) ∧ X.cell? ⟨b, of + 2, none⟩ = some (.string x2) ∧ X.cell? ⟨b, of + 3, none⟩ = some (.string x3) ∧ X.cell? ⟨b, of + 4, none⟩ = some (.string x4) ∧ X.cell? ⟨b, of + 5, none⟩ = some (.string x5) ∧ X.cell? ⟨b, of + 6, none⟩ = some (.string x6) := fun X hX => by
    have h := hv.below hX
    refine ⟨?_, ?_, ?_, ?_, ?_, ?_⟩
    · obtain ⟨b', o', c', e', -, -, hc', -⟩ := h.at 1 (by simp)
      simp only [Value.slice.injEq, Option.some.injEq, Addr.mk.injEq, and_true] at e'
      obtain ⟨⟨rfl, rfl⟩, -⟩ := e'
      exact hc'
    · obtain ⟨b', o', c', e', -, -, hc', -⟩ := h.at 2 (by simp)
      simp only [Value.slice.injEq, Option.some.injEq, Addr.mk.injEq, and_true] at e'
      obtain ⟨⟨rfl, rfl⟩, -⟩ := e'
      exact hc'
    · obtain ⟨b', o', c', e', -, -, hc', -⟩ := h.at 3 (by simp)
      simp only [Value.slice.injEq, Option.some.injEq, Addr.mk.injEq, and_true] at e'
      obtain ⟨⟨rfl, rfl⟩, -⟩ := e'
      exact hc'
    · obtain ⟨b', o', c', e', -, -, hc', -⟩ := h.at 4 (by simp)
      simp only [Value.slice.injEq, Option.some.injEq, Addr.mk.injEq, and_true] at e'
      obtain ⟨⟨rfl, rfl⟩, -⟩ := e'
      exact hc'
    · obtain ⟨b', o', c', e', -, -, hc', -⟩ := h.at 5 (by simp)
      simp only [Value.slice.injEq, Option.some.injEq, Addr.mk.injEq, and_true] at e'
      obtain ⟨⟨rfl, rfl⟩, -⟩ := e'
      exact hc'
    · obtain ⟨b', o', c', e', -, -, hc', -⟩ := h.at 6 (by simp)
      simp only [Value.slice.injEq, Option.some.injEq, Addr.mk.injEq, and_true] at e'
      obtain ⟨⟨rfl, rfl⟩, -⟩ := e'
      exact hc'
  have s1 : x1.size ≤ 200 := hsz x1 (by simp)
  have s2 : x2.size ≤ 200 := hsz x2 (by simp)
  have s3 : x3.size ≤ 200 := hsz x3 (by simp)
  have s4 : x4.size ≤ 200 := hsz x4 (by simp)
  have s5 : x5.size ≤ 200 := hsz x5 (by simp)
  have s6 : x6.size ≤ 200 := hsz x6 (by simp)
  clear hv hsz hc0 hx0
  go_enter Tryd.func19, Tryd.ntmps19
  obtain ⟨W0, HW⟩ : ∃ W, Hid (W = ((w.alloc (Obj.cells #[.int .i64 g.zones, .int .i64 g.hours, .slice la ln lc, .int .i64 g.low, .int .i64 g.high] 24)).alloc (Obj.cells #[.int .i64 0, .int .i64 0, .int .i64 0, .string ⟨#[]⟩, .int .i64 0, .int .i64 0, .int .i64 0, .bool false, .int .i64 0, .int .i64 0, .string ⟨#[]⟩, .int .i64 0, .int .i64 0, .bool false, .int .i64 0, .slice none 0 0, .int .i64 0, .int .i64 0] 36)).alloc (Obj.cells #[.int .i64 2, .int .i64 0, .int .i64 0, .string who, .int .i64 0, .int .i64 0, .int .i64 0, .bool false, .int .i64 0, .int .i64 0, .string ⟨#[]⟩, .int .i64 0, .int .i64 0, .bool false, .int .i64 0, .slice none 0 0, .int .i64 0, .int .i64 0] 36)) := ⟨_, rfl⟩
  have b0 : Below w.heap.size w W0 := by rw [HW.out]; exact (alloc2_below w _ _).alloc (by simp; omega) _
  have eg : W0.heap[w.heap.size]? = some (Obj.cells #[.int .i64 g.zones, .int .i64 g.hours, .slice la ln lc, .int .i64 g.low, .int .i64 g.high] 24 (0, 0)) := by
    rw [HW.out]; exact blk_below (blk_below (heap_alloc_last w _) ((Below.refl _ _).alloc (Nat.le_refl _) _)) ((Below.refl _ _).alloc (Nat.le_refl _) _)
  have er : W0.heap[w.heap.size + 1]? = some (Obj.cells #[.int .i64 0, .int .i64 0, .int .i64 0, .string ⟨#[]⟩, .int .i64 0, .int .i64 0, .int .i64 0, .bool false, .int .i64 0, .int .i64 0, .string ⟨#[]⟩, .int .i64 0, .int .i64 0, .bool false, .int .i64 0, .slice none 0 0, .int .i64 0, .int .i64 0] 36 (0, 0)) := by
    rw [HW.out]; exact blk_below (heap_alloc2_new _ _ _) ((Below.refl _ _).alloc (Nat.le_refl _) _)
  have ea : W0.heap[w.heap.size + 1 + 1]? = some (Obj.cells #[.int .i64 2, .int .i64 0, .int .i64 0, .string who, .int .i64 0, .int .i64 0, .int .i64 0, .bool false, .int .i64 0, .int .i64 0, .string ⟨#[]⟩, .int .i64 0, .int .i64 0, .bool false, .int .i64 0, .slice none 0 0, .int .i64 0, .int .i64 0] 36 (0, 0)) := by
    rw [HW.out]
    have := heap_alloc2_new (w.alloc (Obj.cells #[.int .i64 g.zones, .int .i64 g.hours, .slice la ln lc, .int .i64 g.low, .int .i64 g.high] 24)) (Obj.cells #[.int .i64 0, .int .i64 0, .int .i64 0, .string ⟨#[]⟩, .int .i64 0, .int .i64 0, .int .i64 0, .bool false, .int .i64 0, .int .i64 0, .string ⟨#[]⟩, .int .i64 0, .int .i64 0, .bool false, .int .i64 0, .slice none 0 0, .int .i64 0, .int .i64 0] 36) (Obj.cells #[.int .i64 2, .int .i64 0, .int .i64 0, .string who, .int .i64 0, .int .i64 0, .int .i64 0, .bool false, .int .i64 0, .int .i64 0, .string ⟨#[]⟩, .int .i64 0, .int .i64 0, .bool false, .int .i64 0, .slice none 0 0, .int .i64 0, .int .i64 0] 36)
    rwa [show (w.alloc (Obj.cells #[.int .i64 g.zones, .int .i64 g.hours, .slice la ln lc, .int .i64 g.low, .int .i64 g.high] 24)).heap.size = w.heap.size + 1 by simp] at this
  have K0 : Kx (fun x => x = w.heap.size + 1 + 1) W0 W0 := Kx.refl _ _
  have hs0 := lt_of_block ea
  have HX : ∀ X, Kx (fun x => x = w.heap.size + 1 + 1) W0 X → Below w.heap.size w X ∧ X.heap[w.heap.size]? = some (Obj.cells #[.int .i64 g.zones, .int .i64 g.hours, .slice la ln lc, .int .i64 g.low, .int .i64 g.high] 24 (0, 0)) ∧ X.heap[w.heap.size + 1]? = some (Obj.cells #[.int .i64 0, .int .i64 0, .int .i64 0, .string ⟨#[]⟩, .int .i64 0, .int .i64 0, .int .i64 0, .bool false, .int .i64 0, .int .i64 0, .string ⟨#[]⟩, .int .i64 0, .int .i64 0, .bool false, .int .i64 0, .slice none 0 0, .int .i64 0, .int .i64 0] 36 (0, 0)) := fun X k => ⟨b0.trans (k.below (by omega) (fun x hx => by omega)), k.blk eg (by omega), k.blk er (by omega)⟩
  have HG : ∀ X, Kx (fun x => x = w.heap.size + 1 + 1) W0 X → X.cell? ⟨w.heap.size, 0, none⟩ = some (.int .i64 g.zones) ∧ X.cell? ⟨w.heap.size, 1, none⟩ = some (.int .i64 g.hours) ∧ X.cell? ⟨w.heap.size, 3, none⟩ = some (.int .i64 g.low) ∧ X.cell? ⟨w.heap.size, 4, none⟩ = some (.int .i64 g.high) := fun X k => ⟨blk_cell (HX X k).2.1 0 _ rfl, blk_cell (HX X k).2.1 1 _ rfl, blk_cell (HX X k).2.1 3 _ rfl, blk_cell (HX X k).2.1 4 _ rfl⟩
  have HZ : ∀ X, Kx (fun x => x = w.heap.size + 1 + 1) W0 X → rowOf X (w.heap.size + 1) 18 = true ∧ (X.setRow (w.heap.size + 1) #[.int .i64 0, .int .i64 0, .int .i64 0, .string ⟨#[]⟩, .int .i64 0, .int .i64 0, .int .i64 0, .bool false, .int .i64 0, .int .i64 0, .string ⟨#[]⟩, .int .i64 0, .int .i64 0, .bool false, .int .i64 0, .slice none 0 0, .int .i64 0, .int .i64 0]).heap[w.heap.size + 1]? = some (.cells #[.int .i64 0, .int .i64 0, .int .i64 0, .string ⟨#[]⟩, .int .i64 0, .int .i64 0, .int .i64 0, .bool false, .int .i64 0, .int .i64 0, .string ⟨#[]⟩, .int .i64 0, .int .i64 0, .bool false, .int .i64 0, .slice none 0 0, .int .i64 0, .int .i64 0] 36 (0, 0)) ∧ Below w.heap.size w (X.setRow (w.heap.size + 1) #[.int .i64 0, .int .i64 0, .int .i64 0, .string ⟨#[]⟩, .int .i64 0, .int .i64 0, .int .i64 0, .bool false, .int .i64 0, .int .i64 0, .string ⟨#[]⟩, .int .i64 0, .int .i64 0, .bool false, .int .i64 0, .slice none 0 0, .int .i64 0, .int .i64 0]) := fun X k => ⟨rowOf_is (n := 18) (HX X k).2.2 rfl, setRow_heap _ _ _ _ _ _ (HX X k).2.2, below_rowJ (HX X k).1 (by omega) _⟩
  clear eg er
  have cc := HC W0 b0
  rw [HW.out] at cc
  obtain ⟨y1, -, -, -, -, -⟩ := cc
  go_wp2_with (refine wpList_store_new rfl 36 _ _ rfl _ _ _ rfl (by simp) rfl 18 info_refAsk (by rfl) (by rfl) (by simp [Value.oneCell']) ?_)
  rw [← HW.out]
  clear HW y1
  refine (jnumber_any x1 1 1000 92 _ (by omega) (by omega)).mono ?_
  rintro r1 w1 ⟨rfl, b1⟩
  have k1 : Kx (fun x => x = w.heap.size + 1 + 1) W0 w1 := (K0.trans (Kx.of_below b1))
  have l1 := blk_below ea b1
  by_cases e1 : ¬ (numF x1 1 1000 92) = 0
  · have hEE : stepE g x1 x2 x3 x4 x5 x6 = (numF x1 1 1000 92) := by unfold stepE; simp only [orE, if_true, if_neg e1, if_neg (show ¬ (numF x1 1 1000 92) = 0 from e1)]
    have HE := hid hEE
    have hb1 : ((numF x1 1 1000 92) != 0) = true := by simp [e1]
    obtain ⟨z1, z2, z3⟩ := HZ _ k1
    clear hEE
    generalize hgen : (numF x1 1 1000 92) = EE at *
    go_wp2
    exact bodyPost_ret (results_cell_tmp Tryd.results19 _ _ (w.heap.size + 1) _ _ _ _ (by rfl) z2 Tryd.underlying36 (by rfl) info_refAsk) rfl ⟨⟨.slice none 0 0, by rw [stepP_bad HE.out e1]; rfl, by rw [stepP_bad HE.out e1]; exact Row1.nil _, fresh_none _⟩, z3⟩
  simp only [Decidable.not_not] at e1
  rw [e1, show numV0 x1 1 1000 92 = numR x1 by unfold numV0; rw [e1, if_pos rfl]]
  have q1 := blk_cell l1 4 (.int .i64 0) rfl
  have fr1 := blk_free l1 4
  have L1 : (w1.setCell ⟨w.heap.size + 1 + 1, 4, none⟩ (.int .i64 (numR x1))).heap[w.heap.size + 1 + 1]? = some (.cells #[.int .i64 2, .int .i64 0, .int .i64 0, .string who, .int .i64 (numR x1), .int .i64 0, .int .i64 0, .bool false, .int .i64 0, .int .i64 0, .string ⟨#[]⟩, .int .i64 0, .int .i64 0, .bool false, .int .i64 0, .slice none 0 0, .int .i64 0, .int .i64 0] 36 (0, 0)) := blk_set l1
  have K1 : Kx (fun x => x = w.heap.size + 1 + 1) W0 (w1.setCell ⟨w.heap.size + 1 + 1, 4, none⟩ (.int .i64 (numR x1))) := Kx.set (S := fun x => x = w.heap.size + 1 + 1) (g := w.heap.size + 1 + 1) k1 rfl _
  have cc := HC _ (HX _ K1).1
  obtain ⟨c1, c2, c3, c4, c5, c6⟩ := cc
  go_wp2_with fail
  generalize w1.setCell ⟨w.heap.size + 1 + 1, 4, none⟩ (.int .i64 (numR x1)) = W1 at *
  clear q1 fr1 l1 k1 c1 c2 c3 c4 c5 c6
  obtain ⟨c1, c2, c3, c4, c5, c6⟩ := HC _ (HX _ K1).1
  obtain ⟨g1, g2, g3, g4⟩ := HG _ K1
  have HS : ∀ X, Kx (fun x => x = w.heap.size + 1 + 1) W0 X → X.cell? ⟨b, of + 2, none⟩ = some (.string x2) ∧ X.cell? ⟨w.heap.size, 0, none⟩ = some (.int .i64 g.zones) := fun X k => ⟨(HC _ (HX _ k).1).2.1, (HG _ k).1⟩
  have bd : Below W1.heap.size W1 W1.drew := ⟨rfl, rfl, rfl, Nat.le_refl _, fun _ _ => rfl⟩
  have D0 : Kx (fun x => x = w.heap.size + 1 + 1) W0 W1.drew := K1.trans (Kx.of_below bd)
  clear c1 c2 c3 c4 c5 c6 g1 g2 g3 g4
  go_region_held3 (fun X => X.cell? ⟨b, of + 2, none⟩ = some (.string x2) ∧ X.cell? ⟨w.heap.size, 0, none⟩ = some (.int .i64 g.zones)) (first | exact HS _ D0 | exact HS _ D2) (first
    | (go_at_call 18; refine (jnumber_any x2 0 (max g.zones 0 - 1) 93 _ (by omega) (by omega)).mono ?_; rintro r2 w2 ⟨rfl, b2⟩; have D2 := D0.trans (Kx.of_below b2)))
  have bb2 : Below W1.heap.size W1 w2 := chain2 bd b2
  clear HS D0
  have k2 : Kx (fun x => x = w.heap.size + 1 + 1) W0 w2 := (K1.trans (Kx.of_below bb2))
  have l2 := blk_below L1 bb2
  rw [show max g.zones 0 - 1 = top g.zones from rfl]
  by_cases e2 : ¬ (numF x2 0 (top g.zones) 93) = 0
  · have hEE : stepE g x1 x2 x3 x4 x5 x6 = (numF x2 0 (top g.zones) 93) := by unfold stepE; simp only [orE, e1, if_true, if_neg e2, if_neg (show ¬ (numF x2 0 (top g.zones) 93) = 0 from e2)]
    have HE := hid hEE
    have hb1 : ((numF x2 0 (top g.zones) 93) != 0) = true := by simp [e2]
    obtain ⟨z1, z2, z3⟩ := HZ _ k2
    clear hEE
    generalize hgen : (numF x2 0 (top g.zones) 93) = EE at *
    go_wp2
    exact bodyPost_ret (results_cell_tmp Tryd.results19 _ _ (w.heap.size + 1) _ _ _ _ (by rfl) z2 Tryd.underlying36 (by rfl) info_refAsk) rfl ⟨⟨.slice none 0 0, by rw [stepP_bad HE.out e2]; rfl, by rw [stepP_bad HE.out e2]; exact Row1.nil _, fresh_none _⟩, z3⟩
  simp only [Decidable.not_not] at e2
  rw [e2, show numV0 x2 0 (top g.zones) 93 = numR x2 by unfold numV0; rw [e2, if_pos rfl]]
  have q2 := blk_cell l2 5 (.int .i64 0) rfl
  have fr2 := blk_free l2 5
  have L2 : (w2.setCell ⟨w.heap.size + 1 + 1, 5, none⟩ (.int .i64 (numR x2))).heap[w.heap.size + 1 + 1]? = some (.cells #[.int .i64 2, .int .i64 0, .int .i64 0, .string who, .int .i64 (numR x1), .int .i64 (numR x2), .int .i64 0, .bool false, .int .i64 0, .int .i64 0, .string ⟨#[]⟩, .int .i64 0, .int .i64 0, .bool false, .int .i64 0, .slice none 0 0, .int .i64 0, .int .i64 0] 36 (0, 0)) := blk_set l2
  have K2 : Kx (fun x => x = w.heap.size + 1 + 1) W0 (w2.setCell ⟨w.heap.size + 1 + 1, 5, none⟩ (.int .i64 (numR x2))) := Kx.set (S := fun x => x = w.heap.size + 1 + 1) (g := w.heap.size + 1 + 1) k2 rfl _
  have cc := HC _ (HX _ K2).1
  obtain ⟨c1, c2, c3, c4, c5, c6⟩ := cc
  go_wp2_with fail
  generalize w2.setCell ⟨w.heap.size + 1 + 1, 5, none⟩ (.int .i64 (numR x2)) = W2 at *
  clear q2 fr2 l2 k2 c1 c2 c3 c4 c5 c6
  obtain ⟨c1, c2, c3, c4, c5, c6⟩ := HC _ (HX _ K2).1
  obtain ⟨g1, g2, g3, g4⟩ := HG _ K2
  have HS : ∀ X, Kx (fun x => x = w.heap.size + 1 + 1) W0 X → X.cell? ⟨b, of + 3, none⟩ = some (.string x3) ∧ X.cell? ⟨w.heap.size, 1, none⟩ = some (.int .i64 g.hours) := fun X k => ⟨(HC _ (HX _ k).1).2.2.1, (HG _ k).2.1⟩
  have bd : Below W2.heap.size W2 W2.drew := ⟨rfl, rfl, rfl, Nat.le_refl _, fun _ _ => rfl⟩
  have D0 : Kx (fun x => x = w.heap.size + 1 + 1) W0 W2.drew := K2.trans (Kx.of_below bd)
  clear c1 c2 c3 c4 c5 c6 g1 g2 g3 g4
  go_region_held3 (fun X => X.cell? ⟨b, of + 3, none⟩ = some (.string x3) ∧ X.cell? ⟨w.heap.size, 1, none⟩ = some (.int .i64 g.hours)) (first | exact HS _ D0 | exact HS _ D3) (first
    | (go_at_call 18; refine (jnumber_any x3 0 (max g.hours 0 - 1) 94 _ (by omega) (by omega)).mono ?_; rintro r3 w3 ⟨rfl, b3⟩; have D3 := D0.trans (Kx.of_below b3)))
  have bb3 : Below W2.heap.size W2 w3 := chain2 bd b3
  clear HS D0
  have k3 : Kx (fun x => x = w.heap.size + 1 + 1) W0 w3 := (K2.trans (Kx.of_below bb3))
  have l3 := blk_below L2 bb3
  rw [show max g.hours 0 - 1 = top g.hours from rfl]
  by_cases e3 : ¬ (numF x3 0 (top g.hours) 94) = 0
  · have hEE : stepE g x1 x2 x3 x4 x5 x6 = (numF x3 0 (top g.hours) 94) := by unfold stepE; simp only [orE, e1, e2, if_true, if_neg e3, if_neg (show ¬ (numF x3 0 (top g.hours) 94) = 0 from e3)]
    have HE := hid hEE
    have hb1 : ((numF x3 0 (top g.hours) 94) != 0) = true := by simp [e3]
    obtain ⟨z1, z2, z3⟩ := HZ _ k3
    clear hEE
    generalize hgen : (numF x3 0 (top g.hours) 94) = EE at *
    go_wp2
    exact bodyPost_ret (results_cell_tmp Tryd.results19 _ _ (w.heap.size + 1) _ _ _ _ (by rfl) z2 Tryd.underlying36 (by rfl) info_refAsk) rfl ⟨⟨.slice none 0 0, by rw [stepP_bad HE.out e3]; rfl, by rw [stepP_bad HE.out e3]; exact Row1.nil _, fresh_none _⟩, z3⟩
  simp only [Decidable.not_not] at e3
  rw [e3, show numV0 x3 0 (top g.hours) 94 = numR x3 by unfold numV0; rw [e3, if_pos rfl]]
  have q3 := blk_cell l3 6 (.int .i64 0) rfl
  have fr3 := blk_free l3 6
  have L3 : (w3.setCell ⟨w.heap.size + 1 + 1, 6, none⟩ (.int .i64 (numR x3))).heap[w.heap.size + 1 + 1]? = some (.cells #[.int .i64 2, .int .i64 0, .int .i64 0, .string who, .int .i64 (numR x1), .int .i64 (numR x2), .int .i64 (numR x3), .bool false, .int .i64 0, .int .i64 0, .string ⟨#[]⟩, .int .i64 0, .int .i64 0, .bool false, .int .i64 0, .slice none 0 0, .int .i64 0, .int .i64 0] 36 (0, 0)) := blk_set l3
  have K3 : Kx (fun x => x = w.heap.size + 1 + 1) W0 (w3.setCell ⟨w.heap.size + 1 + 1, 6, none⟩ (.int .i64 (numR x3))) := Kx.set (S := fun x => x = w.heap.size + 1 + 1) (g := w.heap.size + 1 + 1) k3 rfl _
  have cc := HC _ (HX _ K3).1
  obtain ⟨c1, c2, c3, c4, c5, c6⟩ := cc
  go_wp2_with fail
  generalize w3.setCell ⟨w.heap.size + 1 + 1, 6, none⟩ (.int .i64 (numR x3)) = W3 at *
  clear q3 fr3 l3 k3 c1 c2 c3 c4 c5 c6
  obtain ⟨c1, c2, c3, c4, c5, c6⟩ := HC _ (HX _ K3).1
  obtain ⟨g1, g2, g3, g4⟩ := HG _ K3
  go_wp2_with fail
  refine (jside2_any x4 _).mono ?_
  rintro r4 w4 ⟨rfl, b4⟩
  clear c1 c2 c3 c4 c5 c6 g1 g2 g3 g4
  have k4 : Kx (fun x => x = w.heap.size + 1 + 1) W0 w4 := (K3.trans (Kx.of_below b4))
  have l4 := blk_below L3 b4
  by_cases e4 : ¬ (sideF x4) = 0
  · have hEE : stepE g x1 x2 x3 x4 x5 x6 = (sideF x4) := by unfold stepE; simp only [orE, e1, e2, e3, if_true, if_neg e4, if_neg (show ¬ (sideF x4) = 0 from e4)]
    have HE := hid hEE
    have hb1 : ((sideF x4) != 0) = true := by simp [e4]
    obtain ⟨z1, z2, z3⟩ := HZ _ k4
    clear hEE
    generalize hgen : (sideF x4) = EE at *
    go_wp2
    exact bodyPost_ret (results_cell_tmp Tryd.results19 _ _ (w.heap.size + 1) _ _ _ _ (by rfl) z2 Tryd.underlying36 (by rfl) info_refAsk) rfl ⟨⟨.slice none 0 0, by rw [stepP_bad HE.out e4]; rfl, by rw [stepP_bad HE.out e4]; exact Row1.nil _, fresh_none _⟩, z3⟩
  simp only [Decidable.not_not] at e4
  rw [e4]
  have q4 := blk_cell l4 7 (.bool false) rfl
  have fr4 := blk_free l4 7
  have L4 : (w4.setCell ⟨w.heap.size + 1 + 1, 7, none⟩ (.bool (decide (x4 = buyB)))).heap[w.heap.size + 1 + 1]? = some (.cells #[.int .i64 2, .int .i64 0, .int .i64 0, .string who, .int .i64 (numR x1), .int .i64 (numR x2), .int .i64 (numR x3), .bool (decide (x4 = buyB)), .int .i64 0, .int .i64 0, .string ⟨#[]⟩, .int .i64 0, .int .i64 0, .bool false, .int .i64 0, .slice none 0 0, .int .i64 0, .int .i64 0] 36 (0, 0)) := blk_set l4
  have K4 : Kx (fun x => x = w.heap.size + 1 + 1) W0 (w4.setCell ⟨w.heap.size + 1 + 1, 7, none⟩ (.bool (decide (x4 = buyB)))) := Kx.set (S := fun x => x = w.heap.size + 1 + 1) (g := w.heap.size + 1 + 1) k4 rfl _
  have cc := HC _ (HX _ K4).1
  obtain ⟨c1, c2, c3, c4, c5, c6⟩ := cc
  go_wp2_with fail
  generalize w4.setCell ⟨w.heap.size + 1 + 1, 7, none⟩ (.bool (decide (x4 = buyB))) = W4 at *
  clear q4 fr4 l4 k4 c1 c2 c3 c4 c5 c6
  obtain ⟨c1, c2, c3, c4, c5, c6⟩ := HC _ (HX _ K4).1
  obtain ⟨g1, g2, g3, g4⟩ := HG _ K4
  go_wp2_with fail
  refine (jnumber_any x5 1 1000 95 _ (by omega) (by omega)).mono ?_
  rintro r5 w5 ⟨rfl, b5⟩
  clear c1 c2 c3 c4 c5 c6 g1 g2 g3 g4
  have k5 : Kx (fun x => x = w.heap.size + 1 + 1) W0 w5 := (K4.trans (Kx.of_below b5))
  have l5 := blk_below L4 b5
  by_cases e5 : ¬ (numF x5 1 1000 95) = 0
  · have hEE : stepE g x1 x2 x3 x4 x5 x6 = (numF x5 1 1000 95) := by unfold stepE; simp only [orE, e1, e2, e3, e4, if_true, if_neg e5, if_neg (show ¬ (numF x5 1 1000 95) = 0 from e5)]
    have HE := hid hEE
    have hb1 : ((numF x5 1 1000 95) != 0) = true := by simp [e5]
    obtain ⟨z1, z2, z3⟩ := HZ _ k5
    clear hEE
    generalize hgen : (numF x5 1 1000 95) = EE at *
    go_wp2
    exact bodyPost_ret (results_cell_tmp Tryd.results19 _ _ (w.heap.size + 1) _ _ _ _ (by rfl) z2 Tryd.underlying36 (by rfl) info_refAsk) rfl ⟨⟨.slice none 0 0, by rw [stepP_bad HE.out e5]; rfl, by rw [stepP_bad HE.out e5]; exact Row1.nil _, fresh_none _⟩, z3⟩
  simp only [Decidable.not_not] at e5
  rw [e5, show numV0 x5 1 1000 95 = numR x5 by unfold numV0; rw [e5, if_pos rfl]]
  have q5 := blk_cell l5 8 (.int .i64 0) rfl
  have fr5 := blk_free l5 8
  have L5 : (w5.setCell ⟨w.heap.size + 1 + 1, 8, none⟩ (.int .i64 (numR x5))).heap[w.heap.size + 1 + 1]? = some (.cells #[.int .i64 2, .int .i64 0, .int .i64 0, .string who, .int .i64 (numR x1), .int .i64 (numR x2), .int .i64 (numR x3), .bool (decide (x4 = buyB)), .int .i64 (numR x5), .int .i64 0, .string ⟨#[]⟩, .int .i64 0, .int .i64 0, .bool false, .int .i64 0, .slice none 0 0, .int .i64 0, .int .i64 0] 36 (0, 0)) := blk_set l5
  have K5 : Kx (fun x => x = w.heap.size + 1 + 1) W0 (w5.setCell ⟨w.heap.size + 1 + 1, 8, none⟩ (.int .i64 (numR x5))) := Kx.set (S := fun x => x = w.heap.size + 1 + 1) (g := w.heap.size + 1 + 1) k5 rfl _
  have cc := HC _ (HX _ K5).1
  obtain ⟨c1, c2, c3, c4, c5, c6⟩ := cc
  go_wp2_with fail
  generalize w5.setCell ⟨w.heap.size + 1 + 1, 8, none⟩ (.int .i64 (numR x5)) = W5 at *
  clear q5 fr5 l5 k5 c1 c2 c3 c4 c5 c6
  obtain ⟨c1, c2, c3, c4, c5, c6⟩ := HC _ (HX _ K5).1
  obtain ⟨g1, g2, g3, g4⟩ := HG _ K5
  have HS : ∀ X, Kx (fun x => x = w.heap.size + 1 + 1) W0 X → X.cell? ⟨b, of + 6, none⟩ = some (.string x6) ∧ X.cell? ⟨w.heap.size, 3, none⟩ = some (.int .i64 g.low) ∧ X.cell? ⟨w.heap.size, 4, none⟩ = some (.int .i64 g.high) := fun X k => ⟨(HC _ (HX _ k).1).2.2.2.2.2, (HG _ k).2.2.1, (HG _ k).2.2.2⟩
  have bd : Below W5.heap.size W5 W5.drew := ⟨rfl, rfl, rfl, Nat.le_refl _, fun _ _ => rfl⟩
  have D0 : Kx (fun x => x = w.heap.size + 1 + 1) W0 W5.drew := K5.trans (Kx.of_below bd)
  clear c1 c2 c3 c4 c5 c6 g1 g2 g3 g4
  go_region_held3 (fun X => X.cell? ⟨b, of + 6, none⟩ = some (.string x6) ∧ X.cell? ⟨w.heap.size, 3, none⟩ = some (.int .i64 g.low) ∧ X.cell? ⟨w.heap.size, 4, none⟩ = some (.int .i64 g.high)) (first | exact HS _ D0 | exact HS _ D6) (first
    | (go_at_call 18; refine (jnumber_any x6 g.low g.high 96 _ (by omega) (by omega)).mono ?_; rintro r6 w6 ⟨rfl, b6⟩; have D6 := D0.trans (Kx.of_below b6)))
  have bb6 : Below W5.heap.size W5 w6 := chain2 bd b6
  clear HS D0
  have k6 : Kx (fun x => x = w.heap.size + 1 + 1) W0 w6 := (K5.trans (Kx.of_below bb6))
  have l6 := blk_below L5 bb6
  by_cases e6 : ¬ (numF x6 g.low g.high 96) = 0
  · have hEE : stepE g x1 x2 x3 x4 x5 x6 = (numF x6 g.low g.high 96) := by unfold stepE; simp only [orE, e1, e2, e3, e4, e5, if_true, if_neg e6, if_neg (show ¬ (numF x6 g.low g.high 96) = 0 from e6)]
    have HE := hid hEE
    have hb1 : ((numF x6 g.low g.high 96) != 0) = true := by simp [e6]
    obtain ⟨z1, z2, z3⟩ := HZ _ k6
    clear hEE
    generalize hgen : (numF x6 g.low g.high 96) = EE at *
    go_wp2
    exact bodyPost_ret (results_cell_tmp Tryd.results19 _ _ (w.heap.size + 1) _ _ _ _ (by rfl) z2 Tryd.underlying36 (by rfl) info_refAsk) rfl ⟨⟨.slice none 0 0, by rw [stepP_bad HE.out e6]; rfl, by rw [stepP_bad HE.out e6]; exact Row1.nil _, fresh_none _⟩, z3⟩
  simp only [Decidable.not_not] at e6
  rw [e6, show numV0 x6 g.low g.high 96 = numR x6 by unfold numV0; rw [e6, if_pos rfl]]
  have q6 := blk_cell l6 9 (.int .i64 0) rfl
  have fr6 := blk_free l6 9
  have L6 : (w6.setCell ⟨w.heap.size + 1 + 1, 9, none⟩ (.int .i64 (numR x6))).heap[w.heap.size + 1 + 1]? = some (.cells #[.int .i64 2, .int .i64 0, .int .i64 0, .string who, .int .i64 (numR x1), .int .i64 (numR x2), .int .i64 (numR x3), .bool (decide (x4 = buyB)), .int .i64 (numR x5), .int .i64 (numR x6), .string ⟨#[]⟩, .int .i64 0, .int .i64 0, .bool false, .int .i64 0, .slice none 0 0, .int .i64 0, .int .i64 0] 36 (0, 0)) := blk_set l6
  have K6 : Kx (fun x => x = w.heap.size + 1 + 1) W0 (w6.setCell ⟨w.heap.size + 1 + 1, 9, none⟩ (.int .i64 (numR x6))) := Kx.set (S := fun x => x = w.heap.size + 1 + 1) (g := w.heap.size + 1 + 1) k6 rfl _
  have hEE : stepE g x1 x2 x3 x4 x5 x6 = 0 := by unfold stepE; simp only [orE, e1, e2, e3, e4, e5, e6, if_true]
  have HE := hid hEE
  clear hEE
  have d0 := blk_cell L6 0 (.int .i64 2) rfl
  have d1 := blk_cell L6 1 (.int .i64 0) rfl
  have d2 := blk_cell L6 2 (.int .i64 0) rfl
  have d3 := blk_cell L6 3 (.string who) rfl
  have d4 := blk_cell L6 4 (.int .i64 (numR x1)) rfl
  have d5 := blk_cell L6 5 (.int .i64 (numR x2)) rfl
  have d6 := blk_cell L6 6 (.int .i64 (numR x3)) rfl
  have d7 := blk_cell L6 7 (.bool (decide (x4 = buyB))) rfl
  have d8 := blk_cell L6 8 (.int .i64 (numR x5)) rfl
  have d9 := blk_cell L6 9 (.int .i64 (numR x6)) rfl
  have d10 := blk_cell L6 10 (.string ⟨#[]⟩) rfl
  have d11 := blk_cell L6 11 (.int .i64 0) rfl
  have d12 := blk_cell L6 12 (.int .i64 0) rfl
  have d13 := blk_cell L6 13 (.bool false) rfl
  have d14 := blk_cell L6 14 (.int .i64 0) rfl
  have d15 := blk_cell L6 15 (.slice none 0 0) rfl
  have d16 := blk_cell L6 16 (.int .i64 0) rfl
  have d17 := blk_cell L6 17 (.int .i64 0) rfl
  have z1 := (HZ _ K6).1
  have er9 := (HX _ K6).2.2
  have z2 := setRow_heap _ _ _ #[.int .i64 2, .int .i64 0, .int .i64 0, .string who, .int .i64 (numR x1), .int .i64 (numR x2), .int .i64 (numR x3), .bool (decide (x4 = buyB)), .int .i64 (numR x5), .int .i64 (numR x6), .string ⟨#[]⟩, .int .i64 0, .int .i64 0, .bool false, .int .i64 0, .slice none 0 0, .int .i64 0, .int .i64 0] _ _ er9
  have z3 := below_rowJ (g := w.heap.size + 1) (HX _ K6).1 (by omega) #[.int .i64 2, .int .i64 0, .int .i64 0, .string who, .int .i64 (numR x1), .int .i64 (numR x2), .int .i64 (numR x3), .bool (decide (x4 = buyB)), .int .i64 (numR x5), .int .i64 (numR x6), .string ⟨#[]⟩, .int .i64 0, .int .i64 0, .bool false, .int .i64 0, .slice none 0 0, .int .i64 0, .int .i64 0]
  clear er9 L6
  go_wp2
  exact bodyPost_ret (results_cell_tmp Tryd.results19 _ _ (w.heap.size + 1) _ _ _ _ (by rfl) z2 Tryd.underlying36 (by rfl) info_refAsk) rfl ⟨⟨.slice none 0 0, by rw [stepP_ok HE.out]; rfl, by rw [stepP_ok HE.out]; exact Row1.nil _, fresh_none _⟩, z3⟩
end Go.Proofs.YthhikmlbpagknaaDoor
