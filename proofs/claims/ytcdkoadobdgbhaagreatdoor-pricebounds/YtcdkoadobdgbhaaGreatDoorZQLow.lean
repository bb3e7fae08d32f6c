/- Fractions: lowest, Make. -/
import Derived.Test.YtcdkoadobdgbhaaGreatDoorPk34
import Derived.Test.YtcdkoadobdgbhaaGreatDoorPk30
import Derived.Test.YtcdkoadobdgbhaaGreatDoorPk28
import Derived.Test.YtcdkoadobdgbhaaGreatDoorPk27
namespace Go.Proofs.YtcdkoadobdgbhaaGreatDoor
open Go.RowKit
set_option linter.unusedVariables false
set_option maxRecDepth 100000
set_option linter.unusedSimpArgs false
attribute [local go_sem ↓] Go.wp_at_zero Go.wp_at_succ

def lowG (x y : Int) : Nat := Nat.gcd x.natAbs y.natAbs
/-- The numerator and the denominator of x / y in lowest terms. -/
def lowN (x y : Int) : Int := (if y < 0 then -x else x).tdiv (lowG x y)
def lowD (x y : Int) : Int := ((y.natAbs / lowG x y : Nat) : Int)
theorem lowG_pos {x y : Int} (h : y ≠ 0) : 0 < lowG x y := Nat.gcd_pos_of_pos_right _ (by omega)
theorem low_top {x y : Int} : x.tdiv (sgn (decide (y < 0)) (lowG x y)) = lowN x y := by
  unfold lowN sgn
  by_cases h : y < 0
  · simp [h, Int.tdiv_neg, Int.neg_tdiv]
  · simp [h]
theorem low_bottom {x y : Int} : y.tdiv (sgn (decide (y < 0)) (lowG x y)) = lowD x y := by
  unfold lowD sgn
  generalize lowG x y = g
  by_cases h : y < 0
  · have e : y = -(y.natAbs : Int) := by omega
    rw [decide_eq_true h, if_pos rfl]
    conv => lhs; rw [e]
    rw [Int.tdiv_neg, Int.neg_tdiv, Int.neg_neg, Int.ofNat_tdiv]
  · have e : y = (y.natAbs : Int) := by omega
    rw [decide_eq_false h]
    conv => lhs; rw [e]
    simp [Int.ofNat_tdiv]
theorem keep4q {W X : World} {p q r t : Addr} {a b c d : Value} (h1 : W.cell? p = some a) (h2 : W.cell? q = some b) (h3 : W.cell? r = some c) (h4 : W.cell? t = some d) (h : Below W.heap.size W X) : X.cell? p = some a ∧ X.cell? q = some b ∧ X.cell? r = some c ∧ X.cell? t = some d := ⟨kc h h1, kc h h2, kc h h3, kc h h4⟩
theorem end_set2 {X0 w : World} {g : Nat} {v : Value} {z : Int} {K : Nat} (B : Below X0.heap.size X0 w) (z0 : w.heap[g]? = some (Obj.cells #[Value.slice none 0 0, Value.bool false] 71)) (hg : X0.heap.size ≤ g) (n : NumIs w v z K) (x y : Value) :
    Below X0.heap.size X0 ((w.setCell ⟨g, 0, none⟩ x).setCell ⟨g, 1, none⟩ y) ∧ ((w.setCell ⟨g, 0, none⟩ x).setCell ⟨g, 1, none⟩ y).heap[g]? = some (Obj.cells #[x, y] 71 (0, 0)) ∧ X0.heap.size ≤ g ∧ NumIs ((w.setCell ⟨g, 0, none⟩ x).setCell ⟨g, 1, none⟩ y) v z K :=
  ⟨(end_two B hg z0 x y).2.2, two_set1 (two_set0 z0), hg, n.box2 z0 (by decide) x y⟩
theorem sgn_ne {b : Bool} {m : Nat} (h : 0 < m) : sgn b m ≠ 0 := by cases b <;> simp [sgn] <;> omega
theorem free_four {w : World} {b : Nat} {x0 x1 x2 x3 : Value} {t : TypeId} (h : w.heap[b]? = some (.cells #[x0, x1, x2, x3] t (0, 0))) (k : Nat) : w.frozen? ⟨b, k, none⟩ = false := by simp [World.frozen?, h]
theorem set4_heap {w : World} {r c : Nat} (hne : c ≠ r) (x0 x1 x2 x3 : Value) : ((((w.setCell ⟨r, 0, none⟩ x0).setCell ⟨r, 1, none⟩ x1).setCell ⟨r, 2, none⟩ x2).setCell ⟨r, 3, none⟩ x3).heap[c]? = w.heap[c]? := by
  rw [Below.heap_setCell _ ⟨r, 3, none⟩ x3 c hne, Below.heap_setCell _ ⟨r, 2, none⟩ x2 c hne, Below.heap_setCell _ ⟨r, 1, none⟩ x1 c hne, Below.heap_setCell _ ⟨r, 0, none⟩ x0 c hne]
theorem set4_cell {w : World} {r c o : Nat} {v : Value} (hne : r ≠ c) (x0 x1 x2 x3 : Value) (h : w.cell? ⟨c, o, none⟩ = some v) : ((((w.setCell ⟨r, 0, none⟩ x0).setCell ⟨r, 1, none⟩ x1).setCell ⟨r, 2, none⟩ x2).setCell ⟨r, 3, none⟩ x3).cell? ⟨c, o, none⟩ = some v := by
  have e := set4_heap (w := w) (fun e => hne e.symm) x0 x1 x2 x3
  rw [← h]
  exact World.cell?_of_block (a := ⟨c, o, none⟩) e
theorem set4_keep {X : World} {p q r : Nat} {a b c d : Value} (h : X.cell? ⟨p, 0, none⟩ = some a ∧ X.cell? ⟨p, 1, none⟩ = some b ∧ X.cell? ⟨q, 0, none⟩ = some c ∧ X.cell? ⟨q, 1, none⟩ = some d) (h1 : r ≠ p) (h2 : r ≠ q) (x0 x1 x2 x3 : Value) :
    ((((X.setCell ⟨r, 0, none⟩ x0).setCell ⟨r, 1, none⟩ x1).setCell ⟨r, 2, none⟩ x2).setCell ⟨r, 3, none⟩ x3).cell? ⟨p, 0, none⟩ = some a ∧ ((((X.setCell ⟨r, 0, none⟩ x0).setCell ⟨r, 1, none⟩ x1).setCell ⟨r, 2, none⟩ x2).setCell ⟨r, 3, none⟩ x3).cell? ⟨p, 1, none⟩ = some b ∧ ((((X.setCell ⟨r, 0, none⟩ x0).setCell ⟨r, 1, none⟩ x1).setCell ⟨r, 2, none⟩ x2).setCell ⟨r, 3, none⟩ x3).cell? ⟨q, 0, none⟩ = some c ∧ ((((X.setCell ⟨r, 0, none⟩ x0).setCell ⟨r, 1, none⟩ x1).setCell ⟨r, 2, none⟩ x2).setCell ⟨r, 3, none⟩ x3).cell? ⟨q, 1, none⟩ = some d :=
  ⟨set4_cell h1 _ _ _ _ h.1, set4_cell h1 _ _ _ _ h.2.1, set4_cell h2 _ _ _ _ h.2.2.1, set4_cell h2 _ _ _ _ h.2.2.2⟩
theorem set4_own {w : World} {r : Nat} {y0 y1 y2 y3 : Value} (h : w.heap[r]? = some (.cells #[y0, y1, y2, y3] 73 (0, 0))) (x0 x1 x2 x3 : Value) : ((((w.setCell ⟨r, 0, none⟩ x0).setCell ⟨r, 1, none⟩ x1).setCell ⟨r, 2, none⟩ x2).setCell ⟨r, 3, none⟩ x3).heap[r]? = some (.cells #[x0, x1, x2, x3] 73 (0, 0)) := by
  have hlt := lt_of_block h
  have h' : w.heap[r] = .cells #[y0, y1, y2, y3] 73 (0, 0) := by simpa [Array.getElem?_eq_getElem hlt] using h
  simp [World.setCell, Array.getElem_modify, hlt, h']
theorem num_other {w w' : World} {r : Nat} {v : Value} {z : Int} {K : Nat} {c : Array Value} {fz : Nat × Nat} (h : NumIs w v z K) (hr : w.heap[r]? = some (.cells c 73 fz)) (hk : ∀ b, b ≠ r → w'.heap[b]? = w.heap[b]?) : NumIs w' v z K := by
  obtain ⟨ao, l, cp, h1, sl, L, g1, g2, g3⟩ := h
  refine ⟨ao, l, cp, h1, sl, L, g1, ⟨g2.1, ?_⟩, g3⟩
  rcases g2.2 with e | ⟨g, cap, cur, hv, hb, hh, rr⟩
  · exact Or.inl e
  · refine Or.inr ⟨g, cap, cur, hv, hb, (hk g ?_).trans hh, rr⟩
    intro e
    rw [e, hr] at hh
    simp only [Option.some.injEq, Obj.cells.injEq] at hh
    exact absurd hh.2.1 (by decide)
theorem num_bool {w : World} {ao : Option Addr} {l c : Nat} {d : Bool} {z : Int} {K : Nat} (h : NumIs w (.agg #[.slice ao l c, .bool d]) z K) : d = decide (z < 0) := by
  obtain ⟨_, _, _, h1, _⟩ := h
  simp only [Value.agg.injEq, Array.mk.injEq, List.cons.injEq, Value.bool.injEq] at h1
  exact h1.2.1
theorem end_new2 {X0 w : World} {v : Value} {z : Int} {K : Nat} (B : Below X0.heap.size X0 w) (n : NumIs w v z K) (x y : Value) :
    Below X0.heap.size X0 (w.alloc (Obj.cells #[x, y] 71)) ∧ (w.alloc (Obj.cells #[x, y] 71)).heap[w.heap.size]? = some (Obj.cells #[x, y] 71 (0, 0)) ∧ X0.heap.size ≤ w.heap.size ∧ NumIs (w.alloc (Obj.cells #[x, y] 71)) v z K :=
  ⟨below_alloc' B (Nat.le_refl _) _, box_new _ _, B.size, n.below ((Below.refl _ _).alloc (Nat.le_refl _) _)⟩
set_option maxHeartbeats 20000000 in
theorem qlow_walk (w : World) (a1 a2 : Option Addr) (l1 c1 l2 c2 : Nat) (b1 b2 : Bool) (x y : Int) (K : Nat) (hK : K ≤ 100000000) (h0 : y ≠ 0) (na : NumIs w (.agg #[.slice a1 l1 c1, .bool b1]) x K) (nb : NumIs w (.agg #[.slice a2 l2 c2, .bool b2]) y K) (sv : Int) (bs : Bool) (hsv : signZ y = sv) (hbs : sv = -1 ∧ bs = true ∨ sv = 1 ∧ bs = false) (hby : decide (y < 0) = bs) :
    Calls Tryz.prog 149 #[.agg #[.slice a1 l1 c1, .bool b1], .agg #[.slice a2 l2 c2, .bool b2]] w fun e w' => ∃ v, e = .returned v ∧ RatIs w' v (lowN x y) (lowD x y) (K + 6) ∧ Below w.heap.size w w' := by
  have hx := boxed3_first w (Obj.cells #[.slice a1 l1 c1, .bool b1] 71) (Obj.cells #[.slice a2 l2 c2, .bool b2] 71) (Obj.cells #[.slice none 0 0, .bool false, .slice none 0 0, .bool false] 73)
  have hy := boxed3_second w (Obj.cells #[.slice a1 l1 c1, .bool b1] 71) (Obj.cells #[.slice a2 l2 c2, .bool b2] 71) (Obj.cells #[.slice none 0 0, .bool false, .slice none 0 0, .bool false] 73)
  have hz := boxed3_third w (Obj.cells #[.slice a1 l1 c1, .bool b1] 71) (Obj.cells #[.slice a2 l2 c2, .bool b2] 71) (Obj.cells #[.slice none 0 0, .bool false, .slice none 0 0, .bool false] 73)
  have hB := boxed3 (Below.refl w.heap.size w) (Obj.cells #[.slice a1 l1 c1, .bool b1] 71) (Obj.cells #[.slice a2 l2 c2, .bool b2] 71) (Obj.cells #[.slice none 0 0, .bool false, .slice none 0 0, .bool false] 73)
  have Na := na.below hB
  have Nb := nb.below hB
  have HSV := hid hsv
  have HBY := hid hby
  have HL1 := hid (low_top (x := x) (y := y))
  have HL2 := hid (low_bottom (x := x) (y := y))
  have HG := hid (lowG_pos (x := x) h0)
  clear hsv hby
  rcases hbs with ⟨rfl, rfl⟩ | ⟨rfl, rfl⟩
  all_goals
    go_enter Tryz.func149, Tryz.ntmps149
    go_wp2
    generalize ((w.alloc (Obj.cells #[.slice a1 l1 c1, .bool b1] 71)).alloc (Obj.cells #[.slice a2 l2 c2, .bool b2] 71)).alloc (Obj.cells #[.slice none 0 0, .bool false, .slice none 0 0, .bool false] 73) = W at *
    have t1 := two_cell0 hx
    have t2 := two_cell1 hx
    have t3 := two_cell0 hy
    have t4 := two_cell1 hy
    have B0 : Below W.heap.size W W.drew := (Below.refl _ _).drew
    rename_i Q1 K1 hK1
    have tail : ∀ (V : World) (g : Nat) (x7 x8 v2 v3 v4 : Value) (a5 : Option Addr) (l5 c5 : Nat) (d5 : Bool), Below W.heap.size W V → V.heap[g]? = some (Obj.cells #[Value.slice a5 l5 c5, Value.bool d5] 71 (0, 0)) → W.heap.size ≤ g → NumIs V (Value.agg #[Value.slice a5 l5 c5, Value.bool d5]) (sgn (decide (y < 0)) (lowG x y)) (K + 1 + 1) → K1 { tmps := #[Value.agg #[Value.slice a1 l1 c1, Value.bool b1], Value.agg #[Value.slice a2 l2 c2, Value.bool b2], Value.pointer (some { block := w.heap.size, off := 0 }), Value.pointer (some { block := w.heap.size + 1, off := 0 }), Value.pointer (some { block := w.heap.size + 1 + 1, off := 0 }), Value.pointer (some { block := g, off := 0 }), Value.agg #[Value.slice a2 l2 c2, Value.bool b2], x7, x8, Value.agg #[Value.slice a1 l1 c1, Value.bool b1], v2, Value.agg #[Value.slice a2 l2 c2, Value.bool b2], v3, v4, Value.agg #[Value.slice a5 l5 c5, Value.bool d5], undef, undef, undef, undef, undef, undef, undef, undef, undef, undef, undef, undef, undef, undef, undef, undef, undef, undef, undef], defers := [] } V := by
      intro V g x7 x8 v2 v3 v4 a5 l5 c5 d5 bV vg hgl nC
      clear t1 t2 t3 t4
      have hpw := lt_of_block hx
      have hqw := lt_of_block hy
      have hrw := lt_of_block hz
      have xp := box_below bV hx hpw
      have xq := box_below bV hy hqw
      have xr := box_below bV hz hrw
      have NaV := Na.below bV
      have NbV := Nb.below bV
      have CV := chain2 hB bV
      have ne1 : w.heap.size ≠ g := by omega
      have ne2 : w.heap.size + 1 ≠ g := by omega
      have ne3 : w.heap.size + 1 ≠ w.heap.size := by omega
      have ne4 : w.heap.size + 1 + 1 ≠ w.heap.size := by omega
      have ne5 : w.heap.size + 1 + 1 ≠ w.heap.size + 1 := by omega
      have t1 := two_cell0 xp
      have t2 := two_cell1 xp
      have t3 := two_cell0 vg
      have t4 := two_cell1 vg
      have hl1 := HL1.out
      have hl2 := HL2.out
      have HH := hid (And.intro hl1 (And.intro hl2 (fun b => sgn_ne (b := b) HG.out)))
      clear hl1 hl2
      refine hK1 _ _ ?_
      go_wp2_with fail
      refine (nquo_any _ _ _ x _ (K + 1 + 1) (by omega) (NaV.mono (by omega)) nC (HH.out.2.2 _)).mono ?_
      rintro e w6 ⟨⟨q6, r6, rfl, n6, m6⟩, hb6⟩
      rw [HH.out.1] at n6
      obtain ⟨a6, l6, c6, d6, rfl⟩ := num_form n6
      obtain ⟨a6', l6', c6', d6', rfl⟩ := num_form m6
      have yp := box_below hb6 xp (lt_of_block xp)
      have yq := box_below hb6 xq (lt_of_block xq)
      have yr := box_below hb6 xr (lt_of_block xr)
      have yg := box_below hb6 vg (lt_of_block vg)
      have sp := two_set1 (x := Value.bool d6) (two_set0 (x := Value.slice a6 l6 c6) yp)
      have sq := box_set2 yq ne3 (Value.slice a6 l6 c6) (Value.bool d6)
      have sr := box_set2 yr ne4 (Value.slice a6 l6 c6) (Value.bool d6)
      have sg' := box_set2 yg (fun e => ne1 e.symm) (Value.slice a6 l6 c6) (Value.bool d6)
      have n7 := n6.box2 yp (by decide) (Value.slice a6 l6 c6) (Value.bool d6)
      have nC7 := (nC.below hb6).box2 yp (by decide) (Value.slice a6 l6 c6) (Value.bool d6)
      have Nb7 := (NbV.below hb6).box2 yp (by decide) (Value.slice a6 l6 c6) (Value.bool d6)
      have C7 := (end_two (chain2 CV hb6) (Nat.le_refl _) yp (Value.slice a6 l6 c6) (Value.bool d6)).2.2
      have u0 := two_cell0 yp
      have u1 := two_cell1 yp
      have f0 := two_free (k := 0) yp
      have f1 := two_free (k := 1) yp
      have q0 := two_cell0 sq
      have q1 := two_cell1 sq
      have q2 := two_cell0 sg'
      have q3 := two_cell1 sg'
      have q4 := two_cell0 yq
      have q5 := two_cell1 yq
      have q6 := two_cell0 yg
      have q7 := two_cell1 yg
      clear t1 t2 t3 t4 m6 n6 NaV NbV nC CV hb6 xp xq xr vg
      go_wp2_with fail
      clear u0 u1 f0 f1 q0 q1 q2 q3 q4 q5 q6 q7 yp yq yr yg
      generalize (w6.setCell { block := w.heap.size, off := 0 } (Value.slice a6 l6 c6)).setCell { block := w.heap.size, off := 1 } (Value.bool d6) = V6 at *
      refine (nquo_any _ _ _ y _ (K + 1 + 1) (by omega) (Nb7.mono (by omega)) nC7 (HH.out.2.2 _)).mono ?_
      rintro e w8 ⟨⟨q8, r8, rfl, n8, m8⟩, hb8⟩
      rw [HH.out.2.1] at n8
      obtain ⟨a8, l8, c8, d8, rfl⟩ := num_form n8
      obtain ⟨a8', l8', c8', d8', rfl⟩ := num_form m8
      have yp := box_below hb8 sp (lt_of_block sp)
      have yq := box_below hb8 sq (lt_of_block sq)
      have yr := box_below hb8 sr (lt_of_block sr)
      have xq := two_set1 (x := Value.bool d8) (two_set0 (x := Value.slice a8 l8 c8) yq)
      have xp := box_set2 yp (fun e => ne3 e.symm) (Value.slice a8 l8 c8) (Value.bool d8)
      have xr := box_set2 yr ne5 (Value.slice a8 l8 c8) (Value.bool d8)
      have n9 := n8.box2 yq (by decide) (Value.slice a8 l8 c8) (Value.bool d8)
      have n10 := (n7.below hb8).box2 yq (by decide) (Value.slice a8 l8 c8) (Value.bool d8)
      have C9 := (end_two (chain2 C7 hb8) (show w.heap.size ≤ w.heap.size + 1 by omega) yq (Value.slice a8 l8 c8) (Value.bool d8)).2.2
      have u0 := two_cell0 yq
      have u1 := two_cell1 yq
      have f0 := two_free (k := 0) yq
      have f1 := two_free (k := 1) yq
      clear sp sq sr sg' n7 nC7 Nb7 C7 n8 m8 hb8
      go_wp2
      clear u0 u1 f0 f1 yp yq yr
      generalize (w8.setCell { block := w.heap.size + 1, off := 0 } (Value.slice a8 l8 c8)).setCell { block := w.heap.size + 1, off := 1 } (Value.bool d8) = V8 at *
      have p0 := two_cell0 xp
      have p1 := two_cell1 xp
      have p2 := two_cell0 xq
      have p3 := two_cell1 xq
      have B0 : Below V8.heap.size V8 V8.drew := (Below.refl _ _).drew
      go_region_held3 (fun w' => w'.cell? ⟨w.heap.size, 0, none⟩ = some (.slice a6 l6 c6) ∧ w'.cell? ⟨w.heap.size, 1, none⟩ = some (.bool d6) ∧ w'.cell? ⟨w.heap.size + 1, 0, none⟩ = some (.slice a8 l8 c8) ∧ w'.cell? ⟨w.heap.size + 1, 1, none⟩ = some (.bool d8)) (first | exact ⟨p0, p1, p2, p3⟩ | exact K1 | exact K2 | exact K3) (first
        | (have gk := B1; go_at_call 131; refine (nsub_any _ _ _ (lowD x y) 1 (K + 1 + 1) 2 (by omega) (by omega) (n9.below B1) n11).mono ?_; rintro e w12 ⟨v12, rfl, n12, hb12⟩; have B2 := chain2 B1 hb12; obtain ⟨a9, l9, c9, d9, rfl⟩ := num_form n12; have K2 := keep4q p0 p1 p2 p3 B2; have zr := box_below B2 xr (lt_of_block xr); obtain ⟨i0, i1, i2, i3⟩ := four_cell zr; have j0 := free_four zr; have K3 := set4_keep K2 ne4 ne5 (.slice a6 l6 c6) (.bool d6) (.slice a9 l9 c9) (.bool d9))
        | (go_at_call 127; refine (nof_any _ 1 (by omega) (by omega)).mono ?_; rintro e w11 ⟨v11, rfl, n11, hb11⟩; have B1 := chain2 B0 hb11; have K1 := keep4q p0 p1 p2 p3 B1))
      all_goals
        have hr' := set4_own zr (.slice a6 l6 c6) (.bool d6) (.slice a9 l9 c9) (.bool d9)
        have hk' : ∀ b, b ≠ w.heap.size + 1 + 1 → _ = w12.heap[b]? := fun b hb => set4_heap (w := w12) hb (.slice a6 l6 c6) (.bool d6) (.slice a9 l9 c9) (.bool d9)
        have m1 := num_other (n10.below B2) zr hk'
        have m2 := num_other n12 zr hk'
        have CB := (((((chain2 C9 B2).setCell (p := ⟨w.heap.size + 1 + 1, 0, none⟩) (show w.heap.size ≤ w.heap.size + 1 + 1 by omega) (.slice a6 l6 c6)).setCell (p := ⟨w.heap.size + 1 + 1, 1, none⟩) (show w.heap.size ≤ w.heap.size + 1 + 1 by omega) (.bool d6)).setCell (p := ⟨w.heap.size + 1 + 1, 2, none⟩) (show w.heap.size ≤ w.heap.size + 1 + 1 by omega) (.slice a9 l9 c9)).setCell (p := ⟨w.heap.size + 1 + 1, 3, none⟩) (show w.heap.size ≤ w.heap.size + 1 + 1 by omega) (.bool d9))
        obtain ⟨r0, r1, r2, r3⟩ := four_cell hr'
        have HO := hid (And.intro r0 (And.intro r1 (And.intro r2 r3)))
        have HM := hid (And.intro m1 (And.intro m2 CB))
        clear hr' hk' m1 m2 CB r0 r1 r2 r3 zr i0 i1 i2 i3 j0 K1 K2 K3 n12 n11 B1 B2 hb11 hb12
        generalize (((w12.setCell { block := w.heap.size + 1 + 1, off := 0 } (Value.slice a6 l6 c6)).setCell { block := w.heap.size + 1 + 1, off := 1 } (Value.bool d6)).setCell { block := w.heap.size + 1 + 1, off := 2 } (Value.slice a9 l9 c9)).setCell { block := w.heap.size + 1 + 1, off := 3 } (Value.bool d9) = X at *
        have HE := hid (And.intro (num_bool HM.out.1) (num_bool HM.out.2.1))
        go_wp2
        exact bodyPost_ret (v := .agg #[.slice a6 l6 c6, .bool d6, .slice a9 l9 c9, .bool d9]) (by simp [results, Tryz.results149, go_sem, HO.out.1, HO.out.2.1, HO.out.2.2.1, HO.out.2.2.2]) rfl ⟨_, rfl, ⟨a6, l6, c6, a9, l9, c9, by rw [HE.out.1, HE.out.2], by rw [← HE.out.1]; exact HM.out.1.mono (by omega), by rw [← HE.out.2]; exact HM.out.2.1.mono (by omega)⟩, HM.out.2.2⟩
    go_region_held3 (fun w' => w'.cell? ⟨w.heap.size, 0, none⟩ = some (.slice a1 l1 c1) ∧ w'.cell? ⟨w.heap.size, 1, none⟩ = some (.bool b1) ∧ w'.cell? ⟨w.heap.size + 1, 0, none⟩ = some (.slice a2 l2 c2) ∧ w'.cell? ⟨w.heap.size + 1, 1, none⟩ = some (.bool b2)) ((refine keep4q t1 t2 t3 t4 ?_; first | exact B0 | exact B1 | exact B2 | exact B3 | exact B4 | exact B5 | exact below_alloc' B0 (Nat.le_refl _) _ | exact below_alloc' B1 (Nat.le_refl _) _ | exact below_alloc' B2 (Nat.le_refl _) _ | exact below_alloc' B3 (Nat.le_refl _) _ | exact below_alloc' B4 (Nat.le_refl _) _ | exact below_alloc' B5 (Nat.le_refl _) _ | exact (B5.setCell (p := ⟨_, 0, none⟩) (B0.size) _).setCell (p := ⟨_, 1, none⟩) (B0.size) _ | exact (B5.setCell (p := ⟨_, 0, none⟩) (B1.size) _).setCell (p := ⟨_, 1, none⟩) (B1.size) _ | exact (B5.setCell (p := ⟨_, 0, none⟩) (B2.size) _).setCell (p := ⟨_, 1, none⟩) (B2.size) _ | exact (B5.setCell (p := ⟨_, 0, none⟩) (B3.size) _).setCell (p := ⟨_, 1, none⟩) (B3.size) _ | exact (B5.setCell (p := ⟨_, 0, none⟩) (B4.size) _).setCell (p := ⟨_, 1, none⟩) (B4.size) _ | exact ((below_alloc' B5 (Nat.le_refl _) _).setCell (p := ⟨_, 0, none⟩) B5.size _).setCell (p := ⟨_, 1, none⟩) B5.size _)) (first
      | (have gk := B4; go_at_call 175; refine (nmake_any _ _ _ (lowG x y) (K + 1) (by omega) (by first | exact n4 | exact n4.below (below_alloc' (Below.refl _ _) (Nat.le_refl _) _))).mono ?_; rintro e w5 ⟨v5, rfl, n5, hb5⟩; have B5 : Below W.heap.size W w5 := (by first | exact chain2 B4 hb5 | exact chain2 (below_alloc' B4 (Nat.le_refl _) _) hb5); obtain ⟨a5, l5, c5, d5, rfl⟩ := num_form n5; (try have z0 := box_below hb5 (box_new w4 (Obj.cells #[Value.slice none 0 0, Value.bool false] 71)) (lt_of_block (box_new w4 (Obj.cells #[Value.slice none 0 0, Value.bool false] 71)))); (try have z0 := box_below hb5 z0 (lt_of_block z0)); (try have z1 := two_cell0 z0); (try have z2 := two_cell1 z0); (try have z3 := two_free (k := 0) z0); (try have z4 := two_free (k := 1) z0))
      | (have gk := B3; go_at_call 177; refine (gcd_any _ _ _ x.natAbs y.natAbs (K + 1) (by omega) (by first | exact n2 | exact n2.below (below_alloc' (Below.refl _ _) (Nat.le_refl _) _)) (by first | exact n3 | exact n3.below (below_alloc' (Below.refl _ _) (Nat.le_refl _) _))).mono ?_; rintro e w4 ⟨v4, rfl, n4, hb4⟩; have B4 : Below W.heap.size W w4 := (by first | exact chain2 B3 hb4 | exact chain2 (below_alloc' B3 (Nat.le_refl _) _) hb4); (try have z0 := box_below hb4 (box_new w3 (Obj.cells #[Value.slice none 0 0, Value.bool false] 71)) (lt_of_block (box_new w3 (Obj.cells #[Value.slice none 0 0, Value.bool false] 71)))); (try have z0 := box_below hb4 z0 (lt_of_block z0)))
      | (have gk := B2; go_at_call 176; refine (nabs_any _ _ y K (by omega) (by first | exact Nb.below B2 | exact Nb.below (below_alloc' B2 (Nat.le_refl _) _))).mono ?_; rintro e w3 ⟨v3, rfl, n3, hb3⟩; have B3 : Below W.heap.size W w3 := (by first | exact chain2 B2 hb3 | exact chain2 (below_alloc' B2 (Nat.le_refl _) _) hb3); have n2 : NatIs w3 v2 x.natAbs (K + 1) := (by first | exact n2.below hb3 | exact (n2.below (below_alloc' (Below.refl _ _) (Nat.le_refl _) _)).below hb3); (try have z0 := box_below hb3 (box_new w2 (Obj.cells #[Value.slice none 0 0, Value.bool false] 71)) (lt_of_block (box_new w2 (Obj.cells #[Value.slice none 0 0, Value.bool false] 71)))); (try have z0 := box_below hb3 z0 (lt_of_block z0)))
      | (have gk := B1; go_at_call 176; refine (nabs_any _ _ x K (by omega) (by first | exact Na.below B1 | exact Na.below (below_alloc' B1 (Nat.le_refl _) _))).mono ?_; rintro e w2 ⟨v2, rfl, n2, hb2⟩; have B2 : Below W.heap.size W w2 := (by first | exact chain2 B1 hb2 | exact chain2 (below_alloc' B1 (Nat.le_refl _) _) hb2); (try have z0 := box_below hb2 (box_new w1 (Obj.cells #[Value.slice none 0 0, Value.bool false] 71)) (lt_of_block (box_new w1 (Obj.cells #[Value.slice none 0 0, Value.bool false] 71)))); (try have z0 := box_below hb2 z0 (lt_of_block z0)))
      | (have gk := B0; go_at_call 128; refine (nsign_any _ _ y K (by omega) (by first | exact Nb.below B0 | exact Nb.below (below_alloc' B0 (Nat.le_refl _) _))).mono ?_; rintro e w1 ⟨rfl, hb1⟩; have B1 : Below W.heap.size W w1 := (by first | exact chain2 B0 hb1 | exact chain2 (below_alloc' B0 (Nat.le_refl _) _) hb1); (try have z0 := box_below hb1 (show (W.drew.alloc (Obj.cells #[Value.slice none 0 0, Value.bool false] 71)).heap[W.heap.size]? = some (Obj.cells #[Value.slice none 0 0, Value.bool false] 71) from box_new W.drew (Obj.cells #[Value.slice none 0 0, Value.bool false] 71)) (lt_of_block (box_new W.drew (Obj.cells #[Value.slice none 0 0, Value.bool false] 71)))); rw [HSV.out]))
    all_goals
      first
        | (have U := end_set2 B5 z0 B4.size n5 (Value.slice a5 l5 c5) (Value.bool d5); generalize (w5.setCell { block := w4.heap.size, off := 0 } (Value.slice a5 l5 c5)).setCell { block := w4.heap.size, off := 1 } (Value.bool d5) = V at U ⊢; generalize w4.heap.size = g at U ⊢)
        | (have U := end_set2 B5 z0 B3.size n5 (Value.slice a5 l5 c5) (Value.bool d5); generalize (w5.setCell { block := w3.heap.size, off := 0 } (Value.slice a5 l5 c5)).setCell { block := w3.heap.size, off := 1 } (Value.bool d5) = V at U ⊢; generalize w3.heap.size = g at U ⊢)
        | (have U := end_set2 B5 z0 B2.size n5 (Value.slice a5 l5 c5) (Value.bool d5); generalize (w5.setCell { block := w2.heap.size, off := 0 } (Value.slice a5 l5 c5)).setCell { block := w2.heap.size, off := 1 } (Value.bool d5) = V at U ⊢; generalize w2.heap.size = g at U ⊢)
        | (have U := end_set2 B5 z0 B1.size n5 (Value.slice a5 l5 c5) (Value.bool d5); generalize (w5.setCell { block := w1.heap.size, off := 0 } (Value.slice a5 l5 c5)).setCell { block := w1.heap.size, off := 1 } (Value.bool d5) = V at U ⊢; generalize w1.heap.size = g at U ⊢)
        | (have U := end_set2 B5 z0 (Nat.le_refl _) n5 (Value.slice a5 l5 c5) (Value.bool d5); generalize (w5.setCell { block := W.heap.size, off := 0 } (Value.slice a5 l5 c5)).setCell { block := W.heap.size, off := 1 } (Value.bool d5) = V at U ⊢; obtain ⟨g, hg⟩ : ∃ g, g = W.heap.size := ⟨_, rfl⟩; have U := (show Below W.heap.size W V ∧ V.heap[g]? = some (Obj.cells #[Value.slice a5 l5 c5, Value.bool d5] 71 (0, 0)) ∧ W.heap.size ≤ g ∧ _ from ⟨U.1, by rw [hg]; exact U.2.1, by rw [hg]; exact U.2.2.1, U.2.2.2⟩); rw [← hg]; clear hg)
        | (have U := end_new2 B5 n5 (Value.slice a5 l5 c5) (Value.bool d5); generalize w5.alloc (Obj.cells #[Value.slice a5 l5 c5, Value.bool d5] 71) = V at U ⊢; generalize w5.heap.size = g at U ⊢)
      exact tail _ _ _ _ _ _ _ _ _ _ _ U.1 U.2.1 U.2.2.1 (by rw [HBY.out]; exact U.2.2.2)
end Go.Proofs.YtcdkoadobdgbhaaGreatDoor
