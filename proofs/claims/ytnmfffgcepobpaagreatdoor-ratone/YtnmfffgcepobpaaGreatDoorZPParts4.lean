/- A variable of a fraction that is laid, and then written: the ways made one. -/
import Derived.Test.YtnmfffgcepobpaaGreatDoorZPSmall
import Derived.Test.YtnmfffgcepobpaaGreatDoorZPTParse
namespace Go.Proofs.YtnmfffgcepobpaaGreatDoor
open Go.RowKit
set_option linter.unusedVariables false
theorem qend_set4 {X0 w : World} {g : Nat} {v : Value} {n d : Int} {K : Nat} {y0 y1 y2 y3 : Value} (B : Below X0.heap.size X0 w) (z0 : w.heap[g]? = some (Obj.cells #[y0, y1, y2, y3] 29 (0, 0))) (hg : X0.heap.size ≤ g) (h : RatIs w v n d K) (x0 x1 x2 x3 : Value) :
    Below X0.heap.size X0 ((((w.setCell ⟨g, 0, none⟩ x0).setCell ⟨g, 1, none⟩ x1).setCell ⟨g, 2, none⟩ x2).setCell ⟨g, 3, none⟩ x3) ∧ ((((w.setCell ⟨g, 0, none⟩ x0).setCell ⟨g, 1, none⟩ x1).setCell ⟨g, 2, none⟩ x2).setCell ⟨g, 3, none⟩ x3).heap[g]? = some (Obj.cells #[x0, x1, x2, x3] 29 (0, 0)) ∧ X0.heap.size ≤ g ∧ RatIs ((((w.setCell ⟨g, 0, none⟩ x0).setCell ⟨g, 1, none⟩ x1).setCell ⟨g, 2, none⟩ x2).setCell ⟨g, 3, none⟩ x3) v n d K :=
  ⟨p4_below B hg x0 x1 x2 x3, p4_set z0 x0 x1 x2 x3, hg, h.set z0 (p4_other x0 x1 x2 x3)⟩
theorem qend_new4 {X0 w : World} {v : Value} {n d : Int} {K : Nat} (B : Below X0.heap.size X0 w) (h : RatIs w v n d K) (x0 x1 x2 x3 : Value) :
    Below X0.heap.size X0 (w.alloc (Obj.cells #[x0, x1, x2, x3] 29)) ∧ (w.alloc (Obj.cells #[x0, x1, x2, x3] 29)).heap[w.heap.size]? = some (Obj.cells #[x0, x1, x2, x3] 29 (0, 0)) ∧ X0.heap.size ≤ w.heap.size ∧ RatIs (w.alloc (Obj.cells #[x0, x1, x2, x3] 29)) v n d K :=
  ⟨below_alloc' B (Nat.le_refl _) _, box_new _ _, B.size, h.below ((Below.refl _ _).alloc (Nat.le_refl _) _)⟩
end Go.Proofs.YtnmfffgcepobpaaGreatDoor
