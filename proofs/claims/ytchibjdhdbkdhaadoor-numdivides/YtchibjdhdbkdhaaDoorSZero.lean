/- The document's whole numbers: DivMod by 0. -/
import Derived.Test.YtchibjdhdbkdhaaDoorSFloor
namespace Go.Proofs.YtchibjdhdbkdhaaDoor
open Go.RowKit
set_option linter.unusedVariables false
set_option maxRecDepth 100000
set_option linter.unusedSimpArgs false
attribute [local go_sem ↓] Go.wp_at_zero Go.wp_at_succ

set_option maxHeartbeats 2000000 in
theorem sdm_zero (w : World) (a b : Value) (x : Int) (K : Nat) (hK : K ≤ 100000000) (ha : RNumIs w a x K) (hb : RNumIs w b 0 K) :
    Calls Tryd.prog 23 #[a, b] w fun e w' => e = .returned (.tuple #[.agg #[.bool false, .slice none 0 0], .agg #[.bool false, .slice none 0 0], .int .i64 12]) ∧ Below w.heap.size w w' := by
  have Na := ha
  have Nb := hb
  obtain ⟨aa, la, ca, rfl, na0⟩ := ha
  obtain ⟨ab, lb, cb, rfl, nb0⟩ := hb
  rw [show decide ((0 : Int) < 0) = false from rfl] at Nb ⊢
  generalize decide (x < 0) = b at *
  obtain ⟨hB, hx, hz, hy, hy', s4⟩ := boxed4 w (Obj.cells #[.bool b, .slice aa la ca] 31) (Obj.cells #[.bool false, .slice ab lb cb] 31) (Obj.cells #[.bool false, .slice none 0 0] 31) (Obj.cells #[.bool false, .slice none 0 0] 31)
  go_enter Tryd.func23, Tryd.ntmps23
  go_wp2_with fail
  generalize (((w.alloc (Obj.cells #[.bool b, .slice aa la ca] 31)).alloc (Obj.cells #[.bool false, .slice ab lb cb] 31)).alloc (Obj.cells #[.bool false, .slice none 0 0] 31)).alloc (Obj.cells #[.bool false, .slice none 0 0] 31) = W at *
  refine (squo_zero W _ _ x K hK (Na.below hB) (Nb.below hB)).mono ?_
  rintro e w1 ⟨rfl, hb1⟩
  have hbx := hb1.size
  have X1 := boxed2 hb1 (Obj.cells #[.bool false, .slice none 0 0] 31) (Obj.cells #[.bool false, .slice none 0 0] 31)
  have z5 := boxed2_first w1 (Obj.cells #[.bool false, .slice none 0 0] 31) (Obj.cells #[.bool false, .slice none 0 0] 31)
  have z6 := boxed2_second w1 (Obj.cells #[.bool false, .slice none 0 0] 31) (Obj.cells #[.bool false, .slice none 0 0] 31)
  have z3 := box_below X1 hy (by omega)
  have z4 := box_below X1 hy' (by omega)
  have C2 := chain2 hB X1
  have hw1 : w.heap.size + 1 + 1 + 1 + 1 ≤ w1.heap.size := by omega
  clear hx hz hy hy' X1 hb1 hB na0 nb0 Na Nb s4
  go_wp2_with fail
  generalize (w1.alloc (Obj.cells #[.bool false, .slice none 0 0] 31)).alloc (Obj.cells #[.bool false, .slice none 0 0] 31) = XX at *
  go_region
  all_goals
    try simp only [List.getElem_toArray, List.getElem_cons_zero, List.getElem_cons_succ, Act.put, List.setIfInBounds_toArray, List.set_cons_succ, List.set_cons_zero]
    have z3 : XX.drew.heap[w.heap.size + 1 + 1]? = some (Obj.cells #[.bool false, .slice none 0 0] 31) := z3
    have z4 : XX.drew.heap[w.heap.size + 1 + 1 + 1]? = some (Obj.cells #[.bool false, .slice none 0 0] 31) := z4
    have z5 : XX.drew.heap[w1.heap.size]? = some (Obj.cells #[.bool false, .slice none 0 0] 31) := z5
    have z6 : XX.drew.heap[w1.heap.size + 1]? = some (Obj.cells #[.bool false, .slice none 0 0] 31) := z6
    have C2 : Below w.heap.size w XX.drew := C2.drew
    generalize XX.drew = V at *
    have f0 := two_cell0 z5
    have f1 := two_cell1 z5
    have f2 := two_cell0 z6
    have f3 := two_cell1 z6
    have g0 := two_cell0 z3
    have g1 := two_cell1 z3
    have g2 := two_free (k := 0) z3
    have g3 := two_free (k := 1) z3
    have g4 := two_cell0 z4
    have g5 := two_cell1 z4
    have g6 := two_free (k := 0) z4
    have g7 := two_free (k := 1) z4
    obtain ⟨o1, o2, o3, o4, o5, o6, o7⟩ := sdiv_out C2 (show w.heap.size ≤ w.heap.size + 1 + 1 by omega) (show w.heap.size ≤ w.heap.size + 1 + 1 + 1 by omega) (by omega) z3 z4 (ref_zero V) (ref_zero V) _ rfl (x1 := .bool false) (x2 := .bool false)
    have HC := hid (And.intro o3 (And.intro o4 (And.intro o5 (And.intro o6 o7))))
    clear o1 o2 o3 o4 o5 o6 o7
    have ne1 : w1.heap.size ≠ w.heap.size + 1 + 1 := by omega
    have ne2 : w1.heap.size ≠ w.heap.size + 1 + 1 + 1 := by omega
    have ne3 : w1.heap.size + 1 ≠ w.heap.size + 1 + 1 := by omega
    have ne4 : w1.heap.size + 1 ≠ w.heap.size + 1 + 1 + 1 := by omega
    go_wp2
    go_region
    all_goals
      clear f0 f1 f2 f3 g0 g1 g2 g3 g4 g5 g6 g7
      generalize ((((V.setCell ⟨w.heap.size + 1 + 1, 0, none⟩ (Value.bool false)).setCell ⟨w.heap.size + 1 + 1, 1, none⟩ (Value.slice none 0 0)).setCell ⟨w.heap.size + 1 + 1 + 1, 0, none⟩ (Value.bool false)).setCell ⟨w.heap.size + 1 + 1 + 1, 1, none⟩ (Value.slice none 0 0)) = Z at *
      have HC' : Hid (Z.drew.cell? ⟨w.heap.size + 1 + 1, 0, none⟩ = some (Value.bool false) ∧ Z.drew.cell? ⟨w.heap.size + 1 + 1, 1, none⟩ = some (Value.slice none 0 0) ∧ Z.drew.cell? ⟨w.heap.size + 1 + 1 + 1, 0, none⟩ = some (Value.bool false) ∧ Z.drew.cell? ⟨w.heap.size + 1 + 1 + 1, 1, none⟩ = some (Value.slice none 0 0)) := HC.out.2
      go_wp2
      exact bodyPost_ret (v := .tuple #[.agg #[.bool false, .slice none 0 0], .agg #[.bool false, .slice none 0 0], .int .i64 12]) (by simp [results, Tryd.results23, go_sem, HC'.out.1, HC'.out.2.1, HC'.out.2.2.1, HC'.out.2.2.2]) rfl ⟨rfl, HC.out.1.drew⟩
end Go.Proofs.YtchibjdhdbkdhaaDoor
