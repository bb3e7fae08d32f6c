/- What the laws share: four variables kept; a variable that is laid and then written; Sub's answer with its form. -/
import Derived.Test.YtchibjdhdbkdhaaDoorLaws
import Derived.Test.YtchibjdhdbkdhaaDoorSub
namespace Go.Proofs.YtchibjdhdbkdhaaDoor
open Go.RowKit
set_option linter.unusedVariables false

theorem keep4 {W X : World} {p q r s : Nat} {a b c d : Value} (hp : W.cell? ⟨p, 0, none⟩ = some a) (hq : W.cell? ⟨q, 0, none⟩ = some b) (hr : W.cell? ⟨r, 0, none⟩ = some c) (hs : W.cell? ⟨s, 0, none⟩ = some d) (h : Below W.heap.size W X) :
    X.cell? ⟨p, 0, none⟩ = some a ∧ X.cell? ⟨q, 0, none⟩ = some b ∧ X.cell? ⟨r, 0, none⟩ = some c ∧ X.cell? ⟨s, 0, none⟩ = some d :=
  ⟨(keep3 hp hq hr h).1, (keep3 hp hq hr h).2.1, (keep3 hp hq hr h).2.2, (h.cell (World.block_lt_of_cell? W _ hs)).trans hs⟩
theorem end_set {X0 w13 : World} {g : Nat} {v : Value} {m K : Nat} (B3 : Below X0.heap.size X0 w13) (z0 : w13.heap[g]? = some (Obj.cells #[Value.slice none 0 0] 24)) (hg : X0.heap.size ≤ g) (m3 : NatIs w13 v m K) (u : Value) :
    Below X0.heap.size X0 (w13.setCell ⟨g, 0, none⟩ u) ∧ (w13.setCell ⟨g, 0, none⟩ u).heap[g]? = some (Obj.cells #[u] 24) ∧ NatIs (w13.setCell ⟨g, 0, none⟩ u) v m K :=
  ⟨B3.setCell (p := ⟨g, 0, none⟩) hg u, one_setCell (u := u) z0, m3.box z0 (by decide) u⟩
theorem end_new {X0 w13 : World} {v : Value} {m K : Nat} (B3 : Below X0.heap.size X0 w13) (m3 : NatIs w13 v m K) (u : Value) :
    Below X0.heap.size X0 (w13.alloc (Obj.cells #[u] 24)) ∧ (w13.alloc (Obj.cells #[u] 24)).heap[w13.heap.size]? = some (Obj.cells #[u] 24) ∧ NatIs (w13.alloc (Obj.cells #[u] 24)) v m K :=
  ⟨below_alloc' B3 (Nat.le_refl _) _, box_new _ _, m3.below ((Below.refl _ _).alloc (Nat.le_refl _) _)⟩
theorem sub_form (w : World) (a b : Value) (m n K K' : Nat) (hK : K ≤ 1000000000) (hK' : K' ≤ 1000000000) (ha : NatIs w a m K) (hb : NatIs w b n K') (h : n ≤ m) :
    Calls Tryd.prog 95 #[a, b] w fun e w' => ∃ ao l c, e = .returned (.tuple #[.agg #[.slice ao l c], .int .i64 0]) ∧ NatIs w' (.agg #[.slice ao l c]) (m - n) K ∧ Below w.heap.size w w' := by
  refine (sub_any w a b m n K K' hK hK' ha hb h).mono ?_
  rintro e w' ⟨v, rfl, nv, hb⟩
  obtain ⟨ao, l, c, rfl⟩ := nv.form
  exact ⟨ao, l, c, rfl, nv, hb⟩
def subE (m n : Nat) : Int := if m < n then 11 else 0
/-- Sub, below or not. -/
theorem sub_both (w : World) (aa ab : Option Addr) (la ca lb cb m n K K' : Nat) (hK : K ≤ 1000000000) (hK' : K' ≤ 1000000000) (ha : NatIs w (.agg #[.slice aa la ca]) m K) (hb : NatIs w (.agg #[.slice ab lb cb]) n K') :
    Calls Tryd.prog 95 #[.agg #[.slice aa la ca], .agg #[.slice ab lb cb]] w fun e w' => ∃ ao l c, e = .returned (.tuple #[.agg #[.slice ao l c], .int .i64 (subE m n)]) ∧ NatIs w' (.agg #[.slice ao l c]) (m - n) K ∧ Below w.heap.size w w' := by
  by_cases h : m < n
  · refine (sub_below w aa ab la ca lb cb m n K K' ha hb h).mono ?_
    rintro e w' ⟨rfl, hw⟩
    exact ⟨none, 0, 0, by simp [subE, h], ⟨_, [], rfl, World.ownsRow_nil w' _ _ _, by intro j; simp [lg], fun h => by simp at h, by simp [val, pv]; omega, by simp⟩, hw⟩
  · refine (sub_any w _ _ m n K K' hK hK' ha hb (by omega)).mono ?_
    rintro e w' ⟨v, rfl, nv, hw⟩
    obtain ⟨ao, l, c, rfl⟩ := nv.form
    exact ⟨ao, l, c, by simp [subE, h], nv, hw⟩
end Go.Proofs.YtchibjdhdbkdhaaDoor
