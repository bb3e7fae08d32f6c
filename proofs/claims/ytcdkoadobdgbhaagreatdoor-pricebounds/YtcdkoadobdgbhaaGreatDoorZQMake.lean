/- Fractions: Make. -/
import Derived.Test.YtcdkoadobdgbhaaGreatDoorZQLow
namespace Go.Proofs.YtcdkoadobdgbhaaGreatDoor
open Go.RowKit
set_option linter.unusedVariables false
set_option maxRecDepth 100000
set_option linter.unusedSimpArgs false
attribute [local go_sem ↓] Go.wp_at_zero Go.wp_at_succ

theorem qlow_any (w : World) (a b : Value) (x y : Int) (K : Nat) (hK : K ≤ 100000000) (h0 : y ≠ 0) (ha : NumIs w a x K) (hb : NumIs w b y K) :
    Calls Tryz.prog 149 #[a, b] w fun e w' => ∃ v, e = .returned v ∧ RatIs w' v (lowN x y) (lowD x y) (K + 6) ∧ Below w.heap.size w w' := by
  obtain ⟨a1, l1, c1, b1, rfl⟩ := num_form ha
  obtain ⟨a2, l2, c2, b2, rfl⟩ := num_form hb
  rcases (show y < 0 ∨ 0 < y by omega) with h | h
  · exact qlow_walk w a1 a2 l1 c1 l2 c2 b1 b2 x y K hK h0 ha hb (-1) true (by unfold signZ; rw [if_pos h]) (Or.inl ⟨rfl, rfl⟩) (decide_eq_true h)
  · exact qlow_walk w a1 a2 l1 c1 l2 c2 b1 b2 x y K hK h0 ha hb 1 false (by unfold signZ; rw [if_neg (by omega), if_pos h]) (Or.inr ⟨rfl, rfl⟩) (decide_eq_false (by omega))
theorem rat_form {w : World} {v : Value} {n d : Int} {K : Nat} (h : RatIs w v n d K) : ∃ a1 l1 c1 d1 a2 l2 c2 d2, v = .agg #[.slice a1 l1 c1, .bool d1, .slice a2 l2 c2, .bool d2] := by
  obtain ⟨a1, l1, c1, a2, l2, c2, h1, _⟩ := h
  exact ⟨a1, l1, c1, _, a2, l2, c2, _, h1⟩
theorem rat_zero (w : World) : RatIs w (.agg #[.slice none 0 0, .bool false, .slice none 0 0, .bool false]) 0 1 0 :=
  ⟨none, 0, 0, none, 0, 0, rfl, ⟨none, 0, 0, rfl, nat_zero w⟩, ⟨none, 0, 0, rfl, nat_zero w⟩⟩
theorem RatIs.set {w : World} {r : Nat} {v : Value} {n d : Int} {K : Nat} {c : Array Value} {fz : Nat × Nat} {w' : World} (h : RatIs w v n d K) (hr : w.heap[r]? = some (.cells c 73 fz)) (hk : ∀ b, b ≠ r → w'.heap[b]? = w.heap[b]?) : RatIs w' v n d K := by
  obtain ⟨a1, l1, c1, a2, l2, c2, h1, h2, h3⟩ := h
  exact ⟨a1, l1, c1, a2, l2, c2, h1, num_other h2 hr hk, num_other h3 hr hk⟩
def mkE (y : Int) : Int := if y = 0 then 12 else 0
def mkN (x y : Int) : Int := if y = 0 then 0 else lowN x y
def mkD (x y : Int) : Int := if y = 0 then 1 else lowD x y
set_option maxHeartbeats 4000000 in
theorem qmake_any (w : World) (a b : Value) (x y : Int) (K : Nat) (hK : K ≤ 100000000) (ha : NumIs w a x K) (hb : NumIs w b y K) :
    Calls Tryz.prog 118 #[a, b] w fun e w' => (∃ a1 l1 c1 d1 a2 l2 c2 d2, e = .returned (.tuple #[.agg #[.slice a1 l1 c1, .bool d1, .slice a2 l2 c2, .bool d2], .int .i64 (mkE y)]) ∧ RatIs w' (.agg #[.slice a1 l1 c1, .bool d1, .slice a2 l2 c2, .bool d2]) (mkN x y) (mkD x y) (K + 6)) ∧ Below w.heap.size w w' := by
  obtain ⟨a1, l1, c1, b1, rfl⟩ := num_form ha
  obtain ⟨a2, l2, c2, b2, rfl⟩ := num_form hb
  have hx := boxed3_first w (Obj.cells #[.slice a1 l1 c1, .bool b1] 71) (Obj.cells #[.slice a2 l2 c2, .bool b2] 71) (Obj.cells #[.slice none 0 0, .bool false, .slice none 0 0, .bool false] 73)
  have hy := boxed3_second w (Obj.cells #[.slice a1 l1 c1, .bool b1] 71) (Obj.cells #[.slice a2 l2 c2, .bool b2] 71) (Obj.cells #[.slice none 0 0, .bool false, .slice none 0 0, .bool false] 73)
  have hz := boxed3_third w (Obj.cells #[.slice a1 l1 c1, .bool b1] 71) (Obj.cells #[.slice a2 l2 c2, .bool b2] 71) (Obj.cells #[.slice none 0 0, .bool false, .slice none 0 0, .bool false] 73)
  have hB := boxed3 (Below.refl w.heap.size w) (Obj.cells #[.slice a1 l1 c1, .bool b1] 71) (Obj.cells #[.slice a2 l2 c2, .bool b2] 71) (Obj.cells #[.slice none 0 0, .bool false, .slice none 0 0, .bool false] 73)
  have Na := ha.below hB
  have Nb := hb.below hB
  have t3 := two_cell0 hy
  have t4 := two_cell1 hy
  go_enter Tryz.func118, Tryz.ntmps118
  go_wp2_with fail
  generalize ((w.alloc (Obj.cells #[.slice a1 l1 c1, .bool b1] 71)).alloc (Obj.cells #[.slice a2 l2 c2, .bool b2] 71)).alloc (Obj.cells #[.slice none 0 0, .bool false, .slice none 0 0, .bool false] 73) = W at *
  refine (nsign_any _ _ y K (by omega) Nb).mono ?_
  rintro e w1 ⟨rfl, hb1⟩
  have C1 := chain2 hB hb1
  have xp := box_below hb1 hx (lt_of_block hx)
  have xq := box_below hb1 hy (lt_of_block hy)
  have xr := box_below hb1 hz (lt_of_block hz)
  have Na1 := Na.below hb1
  have Nb1 := Nb.below hb1
  clear t3 t4 hx hy hz Na Nb hB hb1
  by_cases h0 : y = 0
  · subst h0
    rw [show signZ 0 = 0 from rfl]
    obtain ⟨i0, i1, i2, i3⟩ := four_cell xr
    have j0 := free_four xr
    have hr' := set4_own xr (.slice none 0 0) (.bool false) (.slice none 0 0) (.bool false)
    have CB := ((((C1.setCell (p := ⟨w.heap.size + 1 + 1, 0, none⟩) (show w.heap.size ≤ w.heap.size + 1 + 1 by omega) (.slice none 0 0)).setCell (p := ⟨w.heap.size + 1 + 1, 1, none⟩) (show w.heap.size ≤ w.heap.size + 1 + 1 by omega) (.bool false)).setCell (p := ⟨w.heap.size + 1 + 1, 2, none⟩) (show w.heap.size ≤ w.heap.size + 1 + 1 by omega) (.slice none 0 0)).setCell (p := ⟨w.heap.size + 1 + 1, 3, none⟩) (show w.heap.size ≤ w.heap.size + 1 + 1 by omega) (.bool false))
    obtain ⟨r0, r1, r2, r3⟩ := four_cell hr'
    have HO := hid (And.intro r0 (And.intro r1 (And.intro r2 r3)))
    clear r0 r1 r2 r3 hr'
    go_wp2
    clear i0 i1 i2 i3 j0
    generalize (((w1.setCell { block := w.heap.size + 1 + 1, off := 0 } (Value.slice none 0 0)).setCell { block := w.heap.size + 1 + 1, off := 1 } (Value.bool false)).setCell { block := w.heap.size + 1 + 1, off := 2 } (Value.slice none 0 0)).setCell { block := w.heap.size + 1 + 1, off := 3 } (Value.bool false) = X at *
    exact bodyPost_ret (v := .tuple #[.agg #[.slice none 0 0, .bool false, .slice none 0 0, .bool false], .int .i64 12]) (by simp [results, Tryz.results118, go_sem, HO.out.1, HO.out.2.1, HO.out.2.2.1, HO.out.2.2.2]) rfl ⟨⟨none, 0, 0, false, none, 0, 0, false, rfl, (rat_zero X).mono (Nat.zero_le _)⟩, CB⟩
  · have hs0 : (signZ y == 0) = false := beq_eq_false_iff_ne.2 (by unfold signZ; (repeat' split) <;> omega)
    generalize signZ y = sg0 at *
    have p0 := two_cell0 xp
    have p1 := two_cell1 xp
    have p2 := two_cell0 xq
    have p3 := two_cell1 xq
    go_wp2_with fail
    refine (qlow_any _ _ _ x y K hK h0 Na1 Nb1).mono ?_
    rintro e w2 ⟨v2, rfl, n2, hb2⟩
    obtain ⟨a5, l5, c5, d5, a6, l6, c6, d6, rfl⟩ := rat_form n2
    have zr := box_below hb2 xr (lt_of_block xr)
    obtain ⟨i0, i1, i2, i3⟩ := four_cell zr
    have j0 := free_four zr
    have hr' := set4_own zr (.slice a5 l5 c5) (.bool d5) (.slice a6 l6 c6) (.bool d6)
    have hk' : ∀ b, b ≠ w.heap.size + 1 + 1 → _ = w2.heap[b]? := fun b hb => set4_heap (w := w2) hb (.slice a5 l5 c5) (.bool d5) (.slice a6 l6 c6) (.bool d6)
    have n3 := n2.set zr hk'
    have CB := (((((chain2 C1 hb2).setCell (p := ⟨w.heap.size + 1 + 1, 0, none⟩) (show w.heap.size ≤ w.heap.size + 1 + 1 by omega) (.slice a5 l5 c5)).setCell (p := ⟨w.heap.size + 1 + 1, 1, none⟩) (show w.heap.size ≤ w.heap.size + 1 + 1 by omega) (.bool d5)).setCell (p := ⟨w.heap.size + 1 + 1, 2, none⟩) (show w.heap.size ≤ w.heap.size + 1 + 1 by omega) (.slice a6 l6 c6)).setCell (p := ⟨w.heap.size + 1 + 1, 3, none⟩) (show w.heap.size ≤ w.heap.size + 1 + 1 by omega) (.bool d6))
    obtain ⟨r0, r1, r2, r3⟩ := four_cell hr'
    have HO := hid (And.intro r0 (And.intro r1 (And.intro r2 r3)))
    have H0 := hid h0
    clear r0 r1 r2 r3 hr' hk' p0 p1 p2 p3 n2 h0
    go_wp2
    clear i0 i1 i2 i3 j0
    generalize (((w2.setCell { block := w.heap.size + 1 + 1, off := 0 } (Value.slice a5 l5 c5)).setCell { block := w.heap.size + 1 + 1, off := 1 } (Value.bool d5)).setCell { block := w.heap.size + 1 + 1, off := 2 } (Value.slice a6 l6 c6)).setCell { block := w.heap.size + 1 + 1, off := 3 } (Value.bool d6) = X at *
    exact bodyPost_ret (v := .tuple #[.agg #[.slice a5 l5 c5, .bool d5, .slice a6 l6 c6, .bool d6], .int .i64 0]) (by simp [results, Tryz.results118, go_sem, HO.out.1, HO.out.2.1, HO.out.2.2.1, HO.out.2.2.2]) rfl ⟨⟨a5, l5, c5, d5, a6, l6, c6, d6, by rw [mkE, if_neg H0.out], by rw [mkN, if_neg H0.out, mkD, if_neg H0.out]; exact n3⟩, CB⟩
end Go.Proofs.YtcdkoadobdgbhaaGreatDoor
