/- RatParts: the law's walk. -/
import Derived.Test.YtjldlmonccgopaaGreatDoorZPNumber
import Derived.Test.YtjldlmonccgopaaGreatDoorZPNum
import Derived.Test.YtjldlmonccgopaaGreatDoorZPSmall
import Derived.Test.YtjldlmonccgopaaGreatDoorZPTParse
import Derived.Test.YtjldlmonccgopaaGreatDoorPk18
import Derived.Test.YtjldlmonccgopaaGreatDoorPk21
namespace Go.Proofs.YtjldlmonccgopaaGreatDoor
open Go.RowKit
set_option linter.unusedVariables false
set_option maxRecDepth 100000
set_option linter.unusedSimpArgs false
attribute [local go_sem ↓] Go.wp_at_zero Go.wp_at_succ

theorem low_neg {x y : Int} (h : 0 < y) : lowN (-x) (-y) = lowN x y ∧ lowD (-x) (-y) = lowD x y := by
  unfold lowN lowD lowG
  rw [Int.natAbs_neg, Int.natAbs_neg, if_pos (show -y < 0 by omega), if_neg (show ¬ y < 0 by omega), Int.neg_neg]
  exact ⟨rfl, rfl⟩
theorem one_text {s : ByteArray} (h : Txt s) (e : num s = 1) : s = ⟨#[49]⟩ := num_inj h txt_one.1 (e.trans txt_one.2.symm)
theorem qend_set4 {X0 w : World} {g : Nat} {v : Value} {n d : Int} {K : Nat} {y0 y1 y2 y3 : Value} (B : Below X0.heap.size X0 w) (z0 : w.heap[g]? = some (Obj.cells #[y0, y1, y2, y3] 29 (0, 0))) (hg : X0.heap.size ≤ g) (h : RatIs w v n d K) (x0 x1 x2 x3 : Value) :
    Below X0.heap.size X0 ((((w.setCell ⟨g, 0, none⟩ x0).setCell ⟨g, 1, none⟩ x1).setCell ⟨g, 2, none⟩ x2).setCell ⟨g, 3, none⟩ x3) ∧ ((((w.setCell ⟨g, 0, none⟩ x0).setCell ⟨g, 1, none⟩ x1).setCell ⟨g, 2, none⟩ x2).setCell ⟨g, 3, none⟩ x3).heap[g]? = some (Obj.cells #[x0, x1, x2, x3] 29 (0, 0)) ∧ X0.heap.size ≤ g ∧ RatIs ((((w.setCell ⟨g, 0, none⟩ x0).setCell ⟨g, 1, none⟩ x1).setCell ⟨g, 2, none⟩ x2).setCell ⟨g, 3, none⟩ x3) v n d K :=
  ⟨p4_below B hg x0 x1 x2 x3, p4_set z0 x0 x1 x2 x3, hg, h.set z0 (p4_other x0 x1 x2 x3)⟩
theorem qend_new4 {X0 w : World} {v : Value} {n d : Int} {K : Nat} (B : Below X0.heap.size X0 w) (h : RatIs w v n d K) (x0 x1 x2 x3 : Value) :
    Below X0.heap.size X0 (w.alloc (Obj.cells #[x0, x1, x2, x3] 29)) ∧ (w.alloc (Obj.cells #[x0, x1, x2, x3] 29)).heap[w.heap.size]? = some (Obj.cells #[x0, x1, x2, x3] 29 (0, 0)) ∧ X0.heap.size ≤ w.heap.size ∧ RatIs (w.alloc (Obj.cells #[x0, x1, x2, x3] 29)) v n d K :=
  ⟨below_alloc' B (Nat.le_refl _) _, box_new _ _, B.size, h.below ((Below.refl _ _).alloc (Nat.le_refl _) _)⟩
theorem end_new1 {X0 w : World} {v : Value} {m K : Nat} (B : Below X0.heap.size X0 w) (h : NatIs w v m K) (u : Value) :
    Below X0.heap.size X0 (w.alloc (Obj.cells #[u] 25)) ∧ (w.alloc (Obj.cells #[u] 25)).heap[w.heap.size]? = some (Obj.cells #[u] 25 (0, 0)) ∧ X0.heap.size ≤ w.heap.size ∧ NatIs (w.alloc (Obj.cells #[u] 25)) v m K :=
  ⟨(end_new B h u).1, (end_new B h u).2.1, B.size, (end_new B h u).2.2⟩
theorem end_set1 {X0 w : World} {g : Nat} {v : Value} {m K : Nat} (B : Below X0.heap.size X0 w) (z0 : w.heap[g]? = some (Obj.cells #[Value.slice none 0 0] 25)) (hg : X0.heap.size ≤ g) (h : NatIs w v m K) (u : Value) :
    Below X0.heap.size X0 (w.setCell ⟨g, 0, none⟩ u) ∧ (w.setCell ⟨g, 0, none⟩ u).heap[g]? = some (Obj.cells #[u] 25 (0, 0)) ∧ X0.heap.size ≤ g ∧ NatIs (w.setCell ⟨g, 0, none⟩ u) v m K :=
  ⟨(end_set B z0 hg h u).1, (end_set B z0 hg h u).2.1, hg, (end_set B z0 hg h u).2.2⟩
theorem one_cell0 {w : World} {b : Nat} {u : Value} {t : TypeId} {fz : Nat × Nat} (h : w.heap[b]? = some (.cells #[u] t fz)) : w.cell? ⟨b, 0, none⟩ = some u := by simp [World.cell?, h]
theorem one_free0 {w : World} {b : Nat} {u : Value} {t : TypeId} (h : w.heap[b]? = some (.cells #[u] t (0, 0))) : w.frozen? ⟨b, 0, none⟩ = false := by simp [World.frozen?, h]
end Go.Proofs.YtjldlmonccgopaaGreatDoor
