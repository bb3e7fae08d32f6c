/- TBase, TText, TMake, QMakesWalk. -/
import Derived.Test.YtcdkoadobdgbhaaGreatDoorPk32
import Derived.Test.YtcdkoadobdgbhaaGreatDoorZSText
import Derived.Test.YtcdkoadobdgbhaaGreatDoorPk34
import Derived.Test.YtcdkoadobdgbhaaGreatDoorZQLow
import Derived.Test.YtcdkoadobdgbhaaGreatDoorPk5
import Derived.Test.YtcdkoadobdgbhaaGreatDoorPk27
import Derived.Test.YtcdkoadobdgbhaaGreatDoorZQMake
/- Fractions in memory: the document's. -/
namespace Go.Proofs.YtcdkoadobdgbhaaGreatDoor
open Go.RowKit
set_option linter.unusedVariables false
set_option maxRecDepth 100000
set_option linter.unusedSimpArgs false
attribute [local go_sem ↓] Go.wp_at_zero Go.wp_at_succ

/-- v is the document's fraction n / d in memory; m, what is kept as its denominator, is d, or 0 where d is 1. -/
def TRatIs (w : World) (v : Value) (n d : Int) (K : Nat) : Prop := ∃ a1 l1 c1 a2 l2 c2 m, v = .agg #[.bool (decide (n < 0)), .slice a1 l1 c1, .bool (decide (m < 0)), .slice a2 l2 c2] ∧ RNumIs w (.agg #[.bool (decide (n < 0)), .slice a1 l1 c1]) n K ∧ RNumIs w (.agg #[.bool (decide (m < 0)), .slice a2 l2 c2]) m K ∧ (m = d ∧ d ≠ 0 ∨ m = 0 ∧ d = 1)
theorem TRatIs.below {w w' : World} {v : Value} {n d : Int} {K : Nat} (h : TRatIs w v n d K) (hb : Below w.heap.size w w') : TRatIs w' v n d K := by
  obtain ⟨a1, l1, c1, a2, l2, c2, m, h1, h2, h3, h4⟩ := h
  exact ⟨a1, l1, c1, a2, l2, c2, m, h1, h2.below hb, h3.below hb, h4⟩
theorem TRatIs.mono {w : World} {v : Value} {n d : Int} {K K' : Nat} (h : TRatIs w v n d K) (hk : K ≤ K') : TRatIs w v n d K' := by
  obtain ⟨a1, l1, c1, a2, l2, c2, m, h1, h2, h3, h4⟩ := h
  exact ⟨a1, l1, c1, a2, l2, c2, m, h1, h2.mono hk, h3.mono hk, h4⟩
theorem rnum_form {w : World} {v : Value} {z : Int} {K : Nat} (h : RNumIs w v z K) : ∃ ao l c d, v = .agg #[.bool d, .slice ao l c] := by
  obtain ⟨ao, l, c, h1, _⟩ := h
  exact ⟨ao, l, c, _, h1⟩
set_option maxHeartbeats 2000000 in
/-- Den: the denominator. -/
theorem tden_any (w : World) (v : Value) (n d : Int) (K : Nat) (hK : K ≤ 400000000) (h : TRatIs w v n d K) :
    Calls Tryz.prog 24 #[v] w fun e w' => ∃ v, e = .returned v ∧ RNumIs w' v d (K + 3) ∧ Below w.heap.size w w' := by
  obtain ⟨a1, l1, c1, a2, l2, c2, m, rfl, h2, h3, h4⟩ := h
  generalize decide (n < 0) = b1 at *
  generalize decide (m < 0) = b2 at *
  have hx := boxed2_first w (Obj.cells #[.bool b1, .slice a1 l1 c1, .bool b2, .slice a2 l2 c2] 35) (Obj.cells #[.bool false, .slice none 0 0] 33)
  have hy := boxed2_second w (Obj.cells #[.bool b1, .slice a1 l1 c1, .bool b2, .slice a2 l2 c2] 35) (Obj.cells #[.bool false, .slice none 0 0] 33)
  have hB := boxed2 (Below.refl w.heap.size w) (Obj.cells #[.bool b1, .slice a1 l1 c1, .bool b2, .slice a2 l2 c2] 35) (Obj.cells #[.bool false, .slice none 0 0] 33)
  have N2 := h3.below hB
  obtain ⟨x0, x1, x2, x3⟩ := four_cell hx
  clear h2 h3
  go_enter Tryz.func24, Tryz.ntmps24
  go_wp2_with fail
  generalize (w.alloc (Obj.cells #[.bool b1, .slice a1 l1 c1, .bool b2, .slice a2 l2 c2] 35)).alloc (Obj.cells #[.bool false, .slice none 0 0] 33) = W at *
  refine (ssign_any _ _ m K (by omega) N2).mono ?_
  rintro e w1 ⟨rfl, hb1⟩
  have C1 := chain2 hB hb1
  have y1 := box_below hb1 hy (lt_of_block hy)
  have z2 := kc hb1 x2
  have z3 := kc hb1 x3
  have M1 := N2.below hb1
  clear x0 x1 x2 x3 N2
  rcases h4 with ⟨rfl, hd⟩ | ⟨rfl, rfl⟩
  · have hs0 : (signZ m == 0) = false := beq_eq_false_iff_ne.2 (by unfold signZ; (repeat' split) <;> omega)
    generalize signZ m = sg0 at *
    obtain ⟨o1, o2, o3⟩ := end_two C1 (show w.heap.size ≤ w.heap.size + 1 by omega) y1 (.bool b2) (.slice a2 l2 c2)
    have n3 := M1.box2 y1 (by decide) (.bool b2) (.slice a2 l2 c2)
    have u0 := two_cell0 y1
    have u1 := two_cell1 y1
    have f0 := two_free (k := 0) y1
    have f1 := two_free (k := 1) y1
    have HO := hid (And.intro o1 (And.intro o2 o3))
    clear o1 o2 o3
    go_wp2
    clear u0 u1 f0 f1
    generalize (w1.setCell ⟨w.heap.size + 1, 0, none⟩ (.bool b2)).setCell ⟨w.heap.size + 1, 1, none⟩ (.slice a2 l2 c2) = X at *
    exact bodyPost_ret (v := .agg #[.bool b2, .slice a2 l2 c2]) (by simp [results, Tryz.results24, go_sem, HO.out.1, HO.out.2.1]) rfl ⟨_, rfl, n3.mono (by omega), HO.out.2.2⟩
  · rw [show signZ 0 = 0 from rfl]
    go_wp2_with fail
    refine (sof_any _ 1 (by omega) (by omega)).mono ?_
    rintro e w2 ⟨v2, rfl, n2, hb2⟩
    obtain ⟨ao, lo, co, dd, rfl⟩ := rnum_form n2
    have C2 := chain2 C1 hb2
    have y2 := box_below hb2 y1 (lt_of_block y1)
    obtain ⟨o1, o2, o3⟩ := end_two C2 (show w.heap.size ≤ w.heap.size + 1 by omega) y2 (.bool dd) (.slice ao lo co)
    have n3 := n2.box2 y2 (by decide) (.bool dd) (.slice ao lo co)
    have u0 := two_cell0 y2
    have u1 := two_cell1 y2
    have f0 := two_free (k := 0) y2
    have f1 := two_free (k := 1) y2
    have HO := hid (And.intro o1 (And.intro o2 o3))
    clear o1 o2 o3
    go_wp2
    clear u0 u1 f0 f1
    generalize (w2.setCell ⟨w.heap.size + 1, 0, none⟩ (.bool dd)).setCell ⟨w.heap.size + 1, 1, none⟩ (.slice ao lo co) = X at *
    exact bodyPost_ret (v := .agg #[.bool dd, .slice ao lo co]) (by simp [results, Tryz.results24, go_sem, HO.out.1, HO.out.2.1]) rfl ⟨_, rfl, n3.mono (by omega), HO.out.2.2⟩
end Go.Proofs.YtcdkoadobdgbhaaGreatDoor
/- Fractions: the document's Text. -/
namespace Go.Proofs.YtcdkoadobdgbhaaGreatDoor
open Go.RowKit
set_option linter.unusedVariables false
set_option maxRecDepth 100000
set_option linter.unusedSimpArgs false
attribute [local go_sem ↓] Go.wp_at_zero Go.wp_at_succ

theorem txt_one : Txt ⟨#[49]⟩ ∧ num ⟨#[49]⟩ = 1 := by
  refine ⟨⟨by decide, by decide, fun k hk => ?_⟩, by decide⟩
  obtain rfl : k = 0 := by have : (⟨#[49]⟩ : ByteArray).size = 1 := rfl; omega
  decide
theorem tl_49 : (⟨#[49]⟩ : ByteArray).toList = [49] := by rw [ByteArray.toList_eq]
theorem tlq_inj {s t : ByteArray} (h : s.toList = t.toList) : s = t := by
  rw [ByteArray.toList_eq, ByteArray.toList_eq] at h
  cases s; cases t
  simp at h
  simp [h]
theorem rnumis_lt {w : World} {v : Value} {z : Int} {K : Nat} (h : RNumIs w v z K) : z.natAbs < 4294967296 ^ K := by
  obtain ⟨_, _, _, _, h2⟩ := h
  exact ref_lt h2
theorem ztx_one : ZTx ⟨#[49]⟩ 1 := Or.inl ⟨by omega, txt_one.1, txt_one.2⟩
theorem is_one {s : ByteArray} {d : Int} (h : ZTx s d) : (s.toList == [49]) = decide (d = 1) := by
  by_cases hd : d = 1
  · subst hd
    rw [h.inj ztx_one, tl_49]; rfl
  · rw [decide_eq_false hd]
    refine beq_eq_false_iff_ne.2 fun e => hd ?_
    have : s = ⟨#[49]⟩ := tlq_inj (e.trans tl_49.symm)
    subst this
    exact h.uniq ztx_one
set_option maxHeartbeats 4000000 in
theorem ttext_any (w : World) (v : Value) (n d : Int) (K : Nat) (hK : K ≤ 1000000) (h : TRatIs w v n d K) :
    Calls Tryz.prog 10 #[v] w fun e w' => (∃ s, e = .returned (.string s) ∧ QTx s n d) ∧ Below w.heap.size w w' := by
  have h0 := h
  obtain ⟨a1, l1, c1, a2, l2, c2, m, rfl, h2, h3, h4⟩ := h
  generalize decide (n < 0) = b1 at *
  generalize decide (m < 0) = b2 at *
  have hx := box_new w (Obj.cells #[.bool b1, .slice a1 l1 c1, .bool b2, .slice a2 l2 c2] 35)
  have hB : Below w.heap.size w (w.alloc (Obj.cells #[.bool b1, .slice a1 l1 c1, .bool b2, .slice a2 l2 c2] 35)) := (Below.refl _ _).alloc (Nat.le_refl _) _
  have N1 := h2.below hB
  have R0 := h0.below hB
  obtain ⟨x0, x1, x2, x3⟩ := four_cell hx
  clear h2 h3 h0 h4
  go_enter Tryz.func10, Tryz.ntmps10
  go_wp2_with fail
  generalize w.alloc (Obj.cells #[.bool b1, .slice a1 l1 c1, .bool b2, .slice a2 l2 c2] 35) = W at *
  refine (tden_any _ _ n d K (by omega) R0).mono ?_
  rintro e w1 ⟨v1, rfl, n1, hb1⟩
  go_wp2_with fail
  refine (stext_any _ _ d (K + 3) (by omega) n1).mono ?_
  rintro e w2 ⟨⟨sd, rfl, hsd⟩, hb2⟩
  have C2 := chain2 hb1 hb2
  have y0 := kc C2 x0
  have y1 := kc C2 x1
  have y2 := kc C2 x2
  have y3 := kc C2 x3
  have N1 := N1.below C2
  have R1 := R0.below C2
  have CC := chain2 hB C2
  have hone := is_one hsd
  clear x0 x1 x2 x3 R0 n1 hb1 hb2 hsd
  by_cases hd : d = 1
  · rw [decide_eq_true hd] at hone
    go_wp2_with fail
    refine (stext_any _ _ n K (by omega) N1).mono ?_
    rintro e w3 ⟨⟨s, rfl, hs⟩, hb3⟩
    have C3 := chain2 CC hb3
    go_wp2
    go_ret
    exact ⟨⟨s, rfl, Or.inl ⟨hd, hs⟩⟩, C3⟩
  · rw [decide_eq_false hd] at hone
    have HD := hid hd
    clear hd
    go_wp2
    have B0 : Below w2.heap.size w2 w2.drew := (Below.refl _ _).drew
    have LN := rnumis_lt N1
    go_region_held3 (fun w' => w'.cell? ⟨w.heap.size, 0, none⟩ = some (.bool b1) ∧ w'.cell? ⟨w.heap.size, 1, none⟩ = some (.slice a1 l1 c1) ∧ w'.cell? ⟨w.heap.size, 2, none⟩ = some (.bool b2) ∧ w'.cell? ⟨w.heap.size, 3, none⟩ = some (.slice a2 l2 c2)) ((refine keep4' y0 y1 y2 y3 ?_; first | exact B0 | exact B1 | exact B2 | exact B3)) (first
      | (have gk := B2; go_at_call 25; refine (stext_any _ _ d (K + 3) (by omega) nd).mono ?_; rintro e w14 ⟨⟨s2, rfl, hs2⟩, hb4⟩; have B3 := chain2 B2 hb4; have z2 := ztx_size hs2 (rnumis_lt nd); have g2 := add_two s1 s2 (by omega))
      | (have gk := B1; go_at_call 24; refine (tden_any _ _ n d K (by omega) (R1.below B1)).mono ?_; rintro e w13 ⟨vd, rfl, nd, hb3⟩; have B2 := chain2 B1 hb3)
      | (go_at_call 25; refine (stext_any _ _ n K (by omega) (N1.below B0)).mono ?_; rintro e w12 ⟨⟨s1, rfl, hs1⟩, hb2⟩; have B1 := chain2 B0 hb2; have z1 := ztx_size hs1 LN; have g1 := add_one s1 (by omega)))
    all_goals
      have C3 := chain2 CC B3
      have HS := hid (show QTx (slash s1 s2) n d from Or.inr ⟨HD.out, s1, s2, hs1, hs2, rfl⟩)
      clear hs1 hs2
      go_wp2
      exact bodyPost_ret (v := .string (slash s1 s2)) (by simp [results, Tryz.results10, go_sem, slash]) rfl ⟨⟨_, rfl, HS.out⟩, C3⟩
end Go.Proofs.YtcdkoadobdgbhaaGreatDoor
/- Fractions: the document's Make. -/
namespace Go.Proofs.YtcdkoadobdgbhaaGreatDoor
open Go.RowKit
set_option linter.unusedVariables false
set_option maxRecDepth 100000
set_option linter.unusedSimpArgs false
attribute [local go_sem ↓] Go.wp_at_zero Go.wp_at_succ

theorem rnum_bool {w : World} {ao : Option Addr} {l c : Nat} {d : Bool} {z : Int} {K : Nat} (h : RNumIs w (.agg #[.bool d, .slice ao l c]) z K) : d = decide (z < 0) := by
  obtain ⟨_, _, _, h1, _⟩ := h
  simp only [Value.agg.injEq, Array.mk.injEq, List.cons.injEq, Value.bool.injEq] at h1
  exact h1.1
theorem rnum_ref {w : World} {ao : Option Addr} {l c : Nat} {d : Bool} {z : Int} {K : Nat} (h : RNumIs w (.agg #[.bool d, .slice ao l c]) z K) : RefIs w (.agg #[.slice ao l c]) z.natAbs K := by
  obtain ⟨a', l', c', h1, h2⟩ := h
  simp only [Value.agg.injEq, Array.mk.injEq, List.cons.injEq, Value.slice.injEq, and_true] at h1
  obtain ⟨_, rfl, rfl, rfl⟩ := h1
  exact h2
theorem rat_own {w : World} {r : Nat} {y0 y1 y2 y3 : Value} (h : w.heap[r]? = some (.cells #[y0, y1, y2, y3] 35 (0, 0))) (x0 x1 x2 x3 : Value) : ((((w.setCell ⟨r, 0, none⟩ x0).setCell ⟨r, 1, none⟩ x1).setCell ⟨r, 2, none⟩ x2).setCell ⟨r, 3, none⟩ x3).heap[r]? = some (.cells #[x0, x1, x2, x3] 35 (0, 0)) := by
  have hlt := lt_of_block h
  have h' : w.heap[r] = .cells #[y0, y1, y2, y3] 35 (0, 0) := by simpa [Array.getElem?_eq_getElem hlt] using h
  simp [World.setCell, Array.getElem_modify, hlt, h']
theorem rnum_other {w w' : World} {r : Nat} {v : Value} {z : Int} {K : Nat} {c : Array Value} {fz : Nat × Nat} (h : RNumIs w v z K) (hr : w.heap[r]? = some (.cells c 35 fz)) (hk : ∀ b, b ≠ r → w'.heap[b]? = w.heap[b]?) : RNumIs w' v z K := by
  obtain ⟨ao, l, cp, h1, sl, L, g1, g2, g3⟩ := h
  refine ⟨ao, l, cp, h1, sl, L, g1, ⟨g2.1, ?_⟩, g3⟩
  rcases g2.2 with e | ⟨g, cap, cur, hv, hb, hh, rr⟩
  · exact Or.inl e
  · refine Or.inr ⟨g, cap, cur, hv, hb, (hk g ?_).trans hh, rr⟩
    intro e
    rw [e, hr] at hh
    simp only [Option.some.injEq, Obj.cells.injEq] at hh
    exact absurd hh.2.1 (by decide)
set_option maxHeartbeats 4000000 in
theorem tmake_zero (w : World) (a b : Value) (x : Int) (K : Nat) (hK : K ≤ 100000000) (ha : RNumIs w a x K) (hb : RNumIs w b 0 K) :
    Calls Tryz.prog 68 #[a, b] w fun e w' => e = .returned (.tuple #[.agg #[.bool false, .slice none 0 0, .bool false, .slice none 0 0], .int .i64 12]) ∧ Below w.heap.size w w' := by
  obtain ⟨a1, l1, c1, b1, rfl⟩ := rnum_form ha
  obtain ⟨a2, l2, c2, b2, rfl⟩ := rnum_form hb
  have hy := boxed3_second w (Obj.cells #[.bool b1, .slice a1 l1 c1] 33) (Obj.cells #[.bool b2, .slice a2 l2 c2] 33) (Obj.cells #[.bool false, .slice none 0 0, .bool false, .slice none 0 0] 35)
  have hz := boxed3_third w (Obj.cells #[.bool b1, .slice a1 l1 c1] 33) (Obj.cells #[.bool b2, .slice a2 l2 c2] 33) (Obj.cells #[.bool false, .slice none 0 0, .bool false, .slice none 0 0] 35)
  have hB := boxed3 (Below.refl w.heap.size w) (Obj.cells #[.bool b1, .slice a1 l1 c1] 33) (Obj.cells #[.bool b2, .slice a2 l2 c2] 33) (Obj.cells #[.bool false, .slice none 0 0, .bool false, .slice none 0 0] 35)
  have Nb := hb.below hB
  have t3 := two_cell0 hy
  have t4 := two_cell1 hy
  go_enter Tryz.func68, Tryz.ntmps68
  go_wp2_with fail
  generalize ((w.alloc (Obj.cells #[.bool b1, .slice a1 l1 c1] 33)).alloc (Obj.cells #[.bool b2, .slice a2 l2 c2] 33)).alloc (Obj.cells #[.bool false, .slice none 0 0, .bool false, .slice none 0 0] 35) = W at *
  refine (ssign_any _ _ 0 K (by omega) Nb).mono ?_
  rintro e w1 ⟨rfl, hb1⟩
  rw [show signZ 0 = 0 from rfl]
  have zr := box_below hb1 hz (lt_of_block hz)
  obtain ⟨i0, i1, i2, i3⟩ := four_cell zr
  have j0 := free_four zr
  have hr' := rat_own zr (.bool false) (.slice none 0 0) (.bool false) (.slice none 0 0)
  have CB := (((((chain2 hB hb1).setCell (p := ⟨w.heap.size + 1 + 1, 0, none⟩) (show w.heap.size ≤ w.heap.size + 1 + 1 by omega) (.bool false)).setCell (p := ⟨w.heap.size + 1 + 1, 1, none⟩) (show w.heap.size ≤ w.heap.size + 1 + 1 by omega) (.slice none 0 0)).setCell (p := ⟨w.heap.size + 1 + 1, 2, none⟩) (show w.heap.size ≤ w.heap.size + 1 + 1 by omega) (.bool false)).setCell (p := ⟨w.heap.size + 1 + 1, 3, none⟩) (show w.heap.size ≤ w.heap.size + 1 + 1 by omega) (.slice none 0 0))
  obtain ⟨r0, r1, r2, r3⟩ := four_cell hr'
  have HO := hid (And.intro r0 (And.intro r1 (And.intro r2 r3)))
  clear r0 r1 r2 r3 hr' t3 t4
  go_wp2
  clear i0 i1 i2 i3 j0
  generalize (((w1.setCell { block := w.heap.size + 1 + 1, off := 0 } (Value.bool false)).setCell { block := w.heap.size + 1 + 1, off := 1 } (Value.slice none 0 0)).setCell { block := w.heap.size + 1 + 1, off := 2 } (Value.bool false)).setCell { block := w.heap.size + 1 + 1, off := 3 } (Value.slice none 0 0) = X at *
  exact bodyPost_ret (v := .tuple #[.agg #[.bool false, .slice none 0 0, .bool false, .slice none 0 0], .int .i64 12]) (by simp [results, Tryz.results68, go_sem, HO.out.1, HO.out.2.1, HO.out.2.2.1, HO.out.2.2.2]) rfl ⟨rfl, CB⟩
theorem low_ne {x y : Int} (h : y ≠ 0) : lowD x y ≠ 0 := by
  have h1 : 0 < y.natAbs / lowG x y := Nat.div_pos (Nat.le_of_dvd (by omega) (Nat.gcd_dvd_right _ _)) (lowG_pos h)
  unfold lowD
  omega
theorem trat_of {w : World} {a1 a2 : Option Addr} {l1 c1 l2 c2 : Nat} {d1 d2 : Bool} {n d : Int} {K : Nat} (h1 : RNumIs w (.agg #[.bool d1, .slice a1 l1 c1]) n K) (h2 : RNumIs w (.agg #[.bool d2, .slice a2 l2 c2]) d K) (h0 : d ≠ 0) : TRatIs w (.agg #[.bool d1, .slice a1 l1 c1, .bool d2, .slice a2 l2 c2]) n d K := by
  obtain rfl := rnum_bool h1
  obtain rfl := rnum_bool h2
  exact ⟨a1, l1, c1, a2, l2, c2, d, rfl, h1, h2, Or.inl ⟨rfl, h0⟩⟩
theorem low_abs {x y : Int} : Nat.gcd (if y < 0 then -x else x).natAbs (y.natAbs : Int).natAbs = lowG x y := by
  unfold lowG
  by_cases h : y < 0 <;> simp [h]
set_option maxHeartbeats 8000000 in
theorem tmake_walk (w : World) (a1 a2 : Option Addr) (l1 c1 l2 c2 : Nat) (b1 b2 : Bool) (x y : Int) (K : Nat) (hK : K ≤ 100000000) (h0 : y ≠ 0) (na : RNumIs w (.agg #[.bool b1, .slice a1 l1 c1]) x K) (nb : RNumIs w (.agg #[.bool b2, .slice a2 l2 c2]) y K) :
    Calls Tryz.prog 68 #[.agg #[.bool b1, .slice a1 l1 c1], .agg #[.bool b2, .slice a2 l2 c2]] w fun e w' => (∃ v, e = .returned (.tuple #[v, .int .i64 0]) ∧ TRatIs w' v (lowN x y) (lowD x y) K) ∧ Below w.heap.size w w' := by
  have hx := boxed3_first w (Obj.cells #[.bool b1, .slice a1 l1 c1] 33) (Obj.cells #[.bool b2, .slice a2 l2 c2] 33) (Obj.cells #[.bool false, .slice none 0 0, .bool false, .slice none 0 0] 35)
  have hy := boxed3_second w (Obj.cells #[.bool b1, .slice a1 l1 c1] 33) (Obj.cells #[.bool b2, .slice a2 l2 c2] 33) (Obj.cells #[.bool false, .slice none 0 0, .bool false, .slice none 0 0] 35)
  have hz := boxed3_third w (Obj.cells #[.bool b1, .slice a1 l1 c1] 33) (Obj.cells #[.bool b2, .slice a2 l2 c2] 33) (Obj.cells #[.bool false, .slice none 0 0, .bool false, .slice none 0 0] 35)
  have hB := boxed3 (Below.refl w.heap.size w) (Obj.cells #[.bool b1, .slice a1 l1 c1] 33) (Obj.cells #[.bool b2, .slice a2 l2 c2] 33) (Obj.cells #[.bool false, .slice none 0 0, .bool false, .slice none 0 0] 35)
  have Na := na.below hB
  have Nb := nb.below hB
  have t3 := two_cell0 hy
  have t4 := two_cell1 hy
  have HL1 := hid (show (if y < 0 then -x else x).tdiv (lowG x y) = lowN x y from rfl)
  have HL2 := hid (show (y.natAbs : Int).tdiv (lowG x y) = lowD x y from (Int.ofNat_tdiv _ _).symm)
  have HGP := hid (lowG_pos (x := x) h0)
  have H0 := hid (low_ne (x := x) h0)
  have HLA := hid (low_abs (x := x) (y := y))
  go_enter Tryz.func68, Tryz.ntmps68
  go_wp2_with fail
  generalize ((w.alloc (Obj.cells #[.bool b1, .slice a1 l1 c1] 33)).alloc (Obj.cells #[.bool b2, .slice a2 l2 c2] 33)).alloc (Obj.cells #[.bool false, .slice none 0 0, .bool false, .slice none 0 0] 35) = W at *
  refine (ssign_any _ _ y K (by omega) Nb).mono ?_
  rintro e w1 ⟨rfl, hb1⟩
  have q0 := kc hb1 t3
  have q1 := kc hb1 t4
  have hs0 : (signZ y == 0) = false := beq_eq_false_iff_ne.2 (by unfold signZ; (repeat' split) <;> omega)
  have Nb1 := Nb.below hb1
  go_wp2_with fail
  refine (ssign_any _ _ y K (by omega) Nb1).mono ?_
  rintro e w2 ⟨rfl, hb2⟩
  have C2 := chain2 hb1 hb2
  clear hs0 q0 q1 t3 t4 Nb1 hb1 hb2
  have xp := box_below C2 hx (lt_of_block hx)
  have xq := box_below C2 hy (lt_of_block hy)
  have xr := box_below C2 hz (lt_of_block hz)
  have Nx := Na.below C2
  have Ny := Nb.below C2
  have CC := chain2 hB C2
  have hpw : w.heap.size + 1 + 1 < W.heap.size := lt_of_block hz
  clear hx hy hz Na Nb C2 hB na nb
  have ne3 : w.heap.size + 1 ≠ w.heap.size := by omega
  have ne4 : w.heap.size + 1 + 1 ≠ w.heap.size := by omega
  have ne5 : w.heap.size + 1 + 1 ≠ w.heap.size + 1 := by omega
  rcases (show y < 0 ∨ 0 < y by omega) with hy0 | hy0
  · rw [show signZ y = -1 by unfold signZ; rw [if_pos hy0]]
    rw [if_pos hy0] at HL1 HLA
    have t1 := two_cell0 xp
    have t2 := two_cell1 xp
    go_wp2_with fail
    refine (sneg_any _ _ x K (by omega) Nx).mono ?_
    rintro e w3 ⟨v3, rfl, n3, hb3⟩
    obtain ⟨pa, pl, pc, pb, rfl⟩ := rnum_form n3
    have yp := box_below hb3 xp (lt_of_block xp)
    have yq := box_below hb3 xq (lt_of_block xq)
    have yr := box_below hb3 xr (lt_of_block xr)
    have sp := two_set1 (x := Value.slice pa pl pc) (two_set0 (x := Value.bool pb) yp)
    have sq := box_set2 yq ne3 (Value.bool pb) (Value.slice pa pl pc)
    have sr := box_set2 yr ne4 (Value.bool pb) (Value.slice pa pl pc)
    have n4 := n3.box2 yp (by decide) (Value.bool pb) (Value.slice pa pl pc)
    have Ny4 := (Ny.below hb3).box2 yp (by decide) (Value.bool pb) (Value.slice pa pl pc)
    have C4 := (end_two (chain2 CC hb3) (Nat.le_refl _) yp (Value.bool pb) (Value.slice pa pl pc)).2.2
    have u0 := two_cell0 yp
    have u1 := two_cell1 yp
    have f0 := two_free (k := 0) yp
    have f1 := two_free (k := 1) yp
    have k0 := two_cell0 sq
    have k1 := two_cell1 sq
    have k2 := two_cell0 yq
    have k3 := two_cell1 yq
    clear t1 t2 n3 Nx Ny CC hb3 xp xq xr
    go_wp2_with fail
    clear u0 u1 f0 f1 k0 k1 k2 k3 yp yq yr
    generalize (w3.setCell { block := w.heap.size, off := 0 } (Value.bool pb)).setCell { block := w.heap.size, off := 1 } (Value.slice pa pl pc) = V4 at *
    refine (sneg_any _ _ y K (by omega) Ny4).mono ?_
    rintro e w5 ⟨v5, rfl, n5, hb5⟩
    obtain ⟨qa, ql, qc, qb, rfl⟩ := rnum_form n5
    have yp := box_below hb5 sp (lt_of_block sp)
    have yq := box_below hb5 sq (lt_of_block sq)
    have yr := box_below hb5 sr (lt_of_block sr)
    have xq := two_set1 (x := Value.slice qa ql qc) (two_set0 (x := Value.bool qb) yq)
    have xp := box_set2 yp (fun e => ne3 e.symm) (Value.bool qb) (Value.slice qa ql qc)
    have xr := box_set2 yr ne5 (Value.bool qb) (Value.slice qa ql qc)
    have Ny := n5.box2 yq (by decide) (Value.bool qb) (Value.slice qa ql qc)
    have Nx := (n4.below hb5).box2 yq (by decide) (Value.bool qb) (Value.slice qa ql qc)
    have CC := (end_two (chain2 C4 hb5) (show w.heap.size ≤ w.heap.size + 1 by omega) yq (Value.bool qb) (Value.slice qa ql qc)).2.2
    rw [show -y = (y.natAbs : Int) by omega] at Ny
    have u0 := two_cell0 yq
    have u1 := two_cell1 yq
    have f0 := two_free (k := 0) yq
    have f1 := two_free (k := 1) yq
    have k0 := two_cell0 xp
    have k1 := two_cell1 xp
    have k2 := two_cell0 xq
    have k3 := two_cell1 xq
    have k4 := two_cell0 yp
    have k5 := two_cell1 yp
    clear sp sq sr n4 Ny4 C4 n5 hb5
    go_wp2_with fail
    clear u0 u1 f0 f1 k0 k1 k2 k3 k4 k5 yp yq yr
    generalize (w5.setCell { block := w.heap.size + 1, off := 0 } (Value.bool qb)).setCell { block := w.heap.size + 1, off := 1 } (Value.slice qa ql qc) = V at *
    generalize -x = X at *
    have GC := HLA.out
    refine (rgcd_any _ _ _ _ _ K (by omega) (rnum_ref Nx) (rnum_ref Ny)).mono ?_
    rintro e w6 ⟨v6, rfl, n6, hb6⟩
    rw [GC] at n6
    clear GC HLA
    generalize lowG x y = G at *
    obtain ⟨ga, gl, gc, rfl⟩ := n6.form
    have zp := box_below hb6 xp (lt_of_block xp)
    have zq := box_below hb6 xq (lt_of_block xq)
    have zr := box_below hb6 xr (lt_of_block xr)
    have Mx := Nx.below hb6
    have My := Ny.below hb6
    have CD := chain2 CC hb6
    clear hb6 xp xq xr Nx Ny CC
    go_wp2_with fail
    refine (smake_any _ false _ G K n6).mono ?_
    rintro e w7 ⟨v7, rfl, n7, hb7⟩
    obtain ⟨ga', gl', gc', gb, rfl⟩ := rnum_form n7
    rw [show sgn false G = (G : Int) from rfl] at n7
    have A8 := chain2 hb7 ((Below.refl w7.heap.size w7).alloc (Nat.le_refl _) (Obj.cells #[.bool gb, .slice ga' gl' gc'] 33))
    have A9 := (Below.refl w7.heap.size w7).alloc (Nat.le_refl _) (Obj.cells #[.bool gb, .slice ga' gl' gc'] 33)
    have xp := box_below A8 zp (lt_of_block zp)
    have xq := box_below A8 zq (lt_of_block zq)
    have xr := box_below A8 zr (lt_of_block zr)
    have xg := box_new w7 (Obj.cells #[.bool gb, .slice ga' gl' gc'] 33)
    have Nx := Mx.below A8
    have Ny := My.below A8
    have Ng := n7.below A9
    have CC := chain2 CD A8
    have neg1 : w7.heap.size ≠ w.heap.size := by have := lt_of_block zp; have := hb7.size; omega
    have neg2 : w7.heap.size ≠ w.heap.size + 1 := by have := lt_of_block zq; have := hb7.size; omega
    clear hb7 n6 n7 zp zq zr Mx My CD A8 A9
    have k0 := two_cell0 xp
    have k1 := two_cell1 xp
    have k2 := two_cell0 xg
    have k3 := two_cell1 xg
    have HG0 : (G : Int) ≠ 0 := by have := HGP.out; omega
    have H1 := hid neg1
    have H2 := hid neg2
    have H3 := hid ne3
    have H4 := hid ne4
    have H5 := hid ne5
    have H6 := hid HG0
    clear neg1 neg2 ne3 ne4 ne5 HG0
    go_wp2_with fail
    clear k0 k1 k2 k3
    generalize w7.heap.size = g at *
    generalize w7.alloc (Obj.cells #[.bool gb, .slice ga' gl' gc'] 33) = V8 at *
    refine (squo_any _ _ _ _ G K (by omega) Nx Ng H6.out).mono ?_
    rintro e w9 ⟨⟨v9, r9, rfl, n9, m9⟩, hb9⟩
    obtain ⟨sa, sl, sc, sb, rfl⟩ := rnum_form n9
    obtain ⟨ta, tl, tc, tb, rfl⟩ := rnum_form m9
    rw [HL1.out] at n9
    have zp := box_below hb9 xp (lt_of_block xp)
    have zq := box_below hb9 xq (lt_of_block xq)
    have zr := box_below hb9 xr (lt_of_block xr)
    have zg := box_below hb9 xg (lt_of_block xg)
    have yp := two_set1 (x := Value.slice sa sl sc) (two_set0 (x := Value.bool sb) zp)
    have yq := box_set2 zq H3.out (Value.bool sb) (Value.slice sa sl sc)
    have yr := box_set2 zr H4.out (Value.bool sb) (Value.slice sa sl sc)
    have yg := box_set2 zg H1.out (Value.bool sb) (Value.slice sa sl sc)
    have Mp := n9.box2 zp (by decide) (Value.bool sb) (Value.slice sa sl sc)
    have My := (Ny.below hb9).box2 zp (by decide) (Value.bool sb) (Value.slice sa sl sc)
    have Mg := (Ng.below hb9).box2 zp (by decide) (Value.bool sb) (Value.slice sa sl sc)
    have CD := (end_two (chain2 CC hb9) (Nat.le_refl _) zp (Value.bool sb) (Value.slice sa sl sc)).2.2
    have u0 := two_cell0 zp
    have u1 := two_cell1 zp
    have f0 := two_free (k := 0) zp
    have f1 := two_free (k := 1) zp
    have k0 := two_cell0 yq
    have k1 := two_cell1 yq
    have k2 := two_cell0 yg
    have k3 := two_cell1 yg
    clear xp xq xr xg Nx Ny Ng CC n9 m9 hb9 HL1
    go_wp2_with fail
    clear u0 u1 f0 f1 k0 k1 k2 k3 zp zq zr zg
    generalize (w9.setCell { block := w.heap.size, off := 0 } (Value.bool sb)).setCell { block := w.heap.size, off := 1 } (Value.slice sa sl sc) = V9 at *
    refine (squo_any _ _ _ (y.natAbs : Int) G K (by omega) My Mg H6.out).mono ?_
    rintro e w10 ⟨⟨v10, r10, rfl, n10, m10⟩, hb10⟩
    obtain ⟨oa, ol, oc, ob, rfl⟩ := rnum_form n10
    obtain ⟨ua, ul, uc, ub, rfl⟩ := rnum_form m10
    rw [HL2.out] at n10
    have zp := box_below hb10 yp (lt_of_block yp)
    have zq := box_below hb10 yq (lt_of_block yq)
    have zr := box_below hb10 yr (lt_of_block yr)
    have xq := two_set1 (x := Value.slice oa ol oc) (two_set0 (x := Value.bool ob) zq)
    have xp := box_set2 zp (fun e => H3.out e.symm) (Value.bool ob) (Value.slice oa ol oc)
    have xr := box_set2 zr H5.out (Value.bool ob) (Value.slice oa ol oc)
    have Nx := (Mp.below hb10).box2 zq (by decide) (Value.bool ob) (Value.slice oa ol oc)
    have Ny := n10.box2 zq (by decide) (Value.bool ob) (Value.slice oa ol oc)
    have CC := (end_two (chain2 CD hb10) (show w.heap.size ≤ w.heap.size + 1 by omega) zq (Value.bool ob) (Value.slice oa ol oc)).2.2
    have u0 := two_cell0 zq
    have u1 := two_cell1 zq
    have f0 := two_free (k := 0) zq
    have f1 := two_free (k := 1) zq
    have k0 := two_cell0 xp
    have k1 := two_cell1 xp
    have k2 := two_cell0 xq
    have k3 := two_cell1 xq
    obtain ⟨i0, i1, i2, i3⟩ := four_cell xr
    have j0 := free_four xr
    have hr' := rat_own xr (.bool sb) (.slice sa sl sc) (.bool ob) (.slice oa ol oc)
    have hk' : ∀ b, b ≠ w.heap.size + 1 + 1 → _ = ((w10.setCell { block := w.heap.size + 1, off := 0 } (Value.bool ob)).setCell { block := w.heap.size + 1, off := 1 } (Value.slice oa ol oc)).heap[b]? := fun b hb => set4_heap (w := (w10.setCell { block := w.heap.size + 1, off := 0 } (Value.bool ob)).setCell { block := w.heap.size + 1, off := 1 } (Value.slice oa ol oc)) hb (.bool sb) (.slice sa sl sc) (.bool ob) (.slice oa ol oc)
    have T := trat_of (rnum_other Nx xr hk') (rnum_other Ny xr hk') H0.out
    have CB := ((((CC.setCell (p := ⟨w.heap.size + 1 + 1, 0, none⟩) (show w.heap.size ≤ w.heap.size + 1 + 1 by omega) (.bool sb)).setCell (p := ⟨w.heap.size + 1 + 1, 1, none⟩) (show w.heap.size ≤ w.heap.size + 1 + 1 by omega) (.slice sa sl sc)).setCell (p := ⟨w.heap.size + 1 + 1, 2, none⟩) (show w.heap.size ≤ w.heap.size + 1 + 1 by omega) (.bool ob)).setCell (p := ⟨w.heap.size + 1 + 1, 3, none⟩) (show w.heap.size ≤ w.heap.size + 1 + 1 by omega) (.slice oa ol oc))
    obtain ⟨r0, r1, r2, r3⟩ := four_cell hr'
    have HO := hid (And.intro r0 (And.intro r1 (And.intro r2 r3)))
    clear r0 r1 r2 r3 hr' hk' yp yq yr yg Mp My Mg CD n10 m10 hb10 HL2
    go_wp2
    clear u0 u1 f0 f1 k0 k1 k2 k3 i0 i1 i2 i3 j0 zp zq zr
    generalize (((((w10.setCell { block := w.heap.size + 1, off := 0 } (Value.bool ob)).setCell { block := w.heap.size + 1, off := 1 } (Value.slice oa ol oc)).setCell { block := w.heap.size + 1 + 1, off := 0 } (Value.bool sb)).setCell { block := w.heap.size + 1 + 1, off := 1 } (Value.slice sa sl sc)).setCell { block := w.heap.size + 1 + 1, off := 2 } (Value.bool ob)).setCell { block := w.heap.size + 1 + 1, off := 3 } (Value.slice oa ol oc) = Y at *
    exact bodyPost_ret (v := .tuple #[.agg #[.bool sb, .slice sa sl sc, .bool ob, .slice oa ol oc], .int .i64 0]) (by simp [results, Tryz.results68, go_sem, HO.out.1, HO.out.2.1, HO.out.2.2.1, HO.out.2.2.2]) rfl ⟨⟨_, rfl, T⟩, CB⟩
  · rw [show signZ y = 1 by unfold signZ; rw [if_neg (by omega), if_pos hy0]]
    rw [if_neg (by omega)] at HL1 HLA
    rw [show y = (y.natAbs : Int) by omega] at Ny
    have k0 := two_cell0 xp
    have k1 := two_cell1 xp
    have k2 := two_cell0 xq
    have k3 := two_cell1 xq
    go_wp2_with fail
    clear k0 k1 k2 k3
    obtain ⟨V, e⟩ : ∃ v, v = w2 := ⟨_, rfl⟩
    subst e
    obtain ⟨pa, e⟩ : ∃ v, v = a1 := ⟨_, rfl⟩
    subst e
    obtain ⟨pl, e⟩ : ∃ v, v = l1 := ⟨_, rfl⟩
    subst e
    obtain ⟨pc, e⟩ : ∃ v, v = c1 := ⟨_, rfl⟩
    subst e
    obtain ⟨pb, e⟩ : ∃ v, v = b1 := ⟨_, rfl⟩
    subst e
    obtain ⟨qa, e⟩ : ∃ v, v = a2 := ⟨_, rfl⟩
    subst e
    obtain ⟨ql, e⟩ : ∃ v, v = l2 := ⟨_, rfl⟩
    subst e
    obtain ⟨qc, e⟩ : ∃ v, v = c2 := ⟨_, rfl⟩
    subst e
    obtain ⟨qb, e⟩ : ∃ v, v = b2 := ⟨_, rfl⟩
    subst e
    have GC := HLA.out
    refine (rgcd_any _ _ _ _ _ K (by omega) (rnum_ref Nx) (rnum_ref Ny)).mono ?_
    rintro e w6 ⟨v6, rfl, n6, hb6⟩
    rw [GC] at n6
    clear GC HLA
    generalize lowG x y = G at *
    obtain ⟨ga, gl, gc, rfl⟩ := n6.form
    have zp := box_below hb6 xp (lt_of_block xp)
    have zq := box_below hb6 xq (lt_of_block xq)
    have zr := box_below hb6 xr (lt_of_block xr)
    have Mx := Nx.below hb6
    have My := Ny.below hb6
    have CD := chain2 CC hb6
    clear hb6 xp xq xr Nx Ny CC
    go_wp2_with fail
    refine (smake_any _ false _ G K n6).mono ?_
    rintro e w7 ⟨v7, rfl, n7, hb7⟩
    obtain ⟨ga', gl', gc', gb, rfl⟩ := rnum_form n7
    rw [show sgn false G = (G : Int) from rfl] at n7
    have A8 := chain2 hb7 ((Below.refl w7.heap.size w7).alloc (Nat.le_refl _) (Obj.cells #[.bool gb, .slice ga' gl' gc'] 33))
    have A9 := (Below.refl w7.heap.size w7).alloc (Nat.le_refl _) (Obj.cells #[.bool gb, .slice ga' gl' gc'] 33)
    have xp := box_below A8 zp (lt_of_block zp)
    have xq := box_below A8 zq (lt_of_block zq)
    have xr := box_below A8 zr (lt_of_block zr)
    have xg := box_new w7 (Obj.cells #[.bool gb, .slice ga' gl' gc'] 33)
    have Nx := Mx.below A8
    have Ny := My.below A8
    have Ng := n7.below A9
    have CC := chain2 CD A8
    have neg1 : w7.heap.size ≠ w.heap.size := by have := lt_of_block zp; have := hb7.size; omega
    have neg2 : w7.heap.size ≠ w.heap.size + 1 := by have := lt_of_block zq; have := hb7.size; omega
    clear hb7 n6 n7 zp zq zr Mx My CD A8 A9
    have k0 := two_cell0 xp
    have k1 := two_cell1 xp
    have k2 := two_cell0 xg
    have k3 := two_cell1 xg
    have HG0 : (G : Int) ≠ 0 := by have := HGP.out; omega
    have H1 := hid neg1
    have H2 := hid neg2
    have H3 := hid ne3
    have H4 := hid ne4
    have H5 := hid ne5
    have H6 := hid HG0
    clear neg1 neg2 ne3 ne4 ne5 HG0
    go_wp2_with fail
    clear k0 k1 k2 k3
    generalize w7.heap.size = g at *
    generalize w7.alloc (Obj.cells #[.bool gb, .slice ga' gl' gc'] 33) = V8 at *
    refine (squo_any _ _ _ _ G K (by omega) Nx Ng H6.out).mono ?_
    rintro e w9 ⟨⟨v9, r9, rfl, n9, m9⟩, hb9⟩
    obtain ⟨sa, sl, sc, sb, rfl⟩ := rnum_form n9
    obtain ⟨ta, tl, tc, tb, rfl⟩ := rnum_form m9
    rw [HL1.out] at n9
    have zp := box_below hb9 xp (lt_of_block xp)
    have zq := box_below hb9 xq (lt_of_block xq)
    have zr := box_below hb9 xr (lt_of_block xr)
    have zg := box_below hb9 xg (lt_of_block xg)
    have yp := two_set1 (x := Value.slice sa sl sc) (two_set0 (x := Value.bool sb) zp)
    have yq := box_set2 zq H3.out (Value.bool sb) (Value.slice sa sl sc)
    have yr := box_set2 zr H4.out (Value.bool sb) (Value.slice sa sl sc)
    have yg := box_set2 zg H1.out (Value.bool sb) (Value.slice sa sl sc)
    have Mp := n9.box2 zp (by decide) (Value.bool sb) (Value.slice sa sl sc)
    have My := (Ny.below hb9).box2 zp (by decide) (Value.bool sb) (Value.slice sa sl sc)
    have Mg := (Ng.below hb9).box2 zp (by decide) (Value.bool sb) (Value.slice sa sl sc)
    have CD := (end_two (chain2 CC hb9) (Nat.le_refl _) zp (Value.bool sb) (Value.slice sa sl sc)).2.2
    have u0 := two_cell0 zp
    have u1 := two_cell1 zp
    have f0 := two_free (k := 0) zp
    have f1 := two_free (k := 1) zp
    have k0 := two_cell0 yq
    have k1 := two_cell1 yq
    have k2 := two_cell0 yg
    have k3 := two_cell1 yg
    clear xp xq xr xg Nx Ny Ng CC n9 m9 hb9 HL1
    go_wp2_with fail
    clear u0 u1 f0 f1 k0 k1 k2 k3 zp zq zr zg
    generalize (w9.setCell { block := w.heap.size, off := 0 } (Value.bool sb)).setCell { block := w.heap.size, off := 1 } (Value.slice sa sl sc) = V9 at *
    refine (squo_any _ _ _ (y.natAbs : Int) G K (by omega) My Mg H6.out).mono ?_
    rintro e w10 ⟨⟨v10, r10, rfl, n10, m10⟩, hb10⟩
    obtain ⟨oa, ol, oc, ob, rfl⟩ := rnum_form n10
    obtain ⟨ua, ul, uc, ub, rfl⟩ := rnum_form m10
    rw [HL2.out] at n10
    have zp := box_below hb10 yp (lt_of_block yp)
    have zq := box_below hb10 yq (lt_of_block yq)
    have zr := box_below hb10 yr (lt_of_block yr)
    have xq := two_set1 (x := Value.slice oa ol oc) (two_set0 (x := Value.bool ob) zq)
    have xp := box_set2 zp (fun e => H3.out e.symm) (Value.bool ob) (Value.slice oa ol oc)
    have xr := box_set2 zr H5.out (Value.bool ob) (Value.slice oa ol oc)
    have Nx := (Mp.below hb10).box2 zq (by decide) (Value.bool ob) (Value.slice oa ol oc)
    have Ny := n10.box2 zq (by decide) (Value.bool ob) (Value.slice oa ol oc)
    have CC := (end_two (chain2 CD hb10) (show w.heap.size ≤ w.heap.size + 1 by omega) zq (Value.bool ob) (Value.slice oa ol oc)).2.2
    have u0 := two_cell0 zq
    have u1 := two_cell1 zq
    have f0 := two_free (k := 0) zq
    have f1 := two_free (k := 1) zq
    have k0 := two_cell0 xp
    have k1 := two_cell1 xp
    have k2 := two_cell0 xq
    have k3 := two_cell1 xq
    obtain ⟨i0, i1, i2, i3⟩ := four_cell xr
    have j0 := free_four xr
    have hr' := rat_own xr (.bool sb) (.slice sa sl sc) (.bool ob) (.slice oa ol oc)
    have hk' : ∀ b, b ≠ w.heap.size + 1 + 1 → _ = ((w10.setCell { block := w.heap.size + 1, off := 0 } (Value.bool ob)).setCell { block := w.heap.size + 1, off := 1 } (Value.slice oa ol oc)).heap[b]? := fun b hb => set4_heap (w := (w10.setCell { block := w.heap.size + 1, off := 0 } (Value.bool ob)).setCell { block := w.heap.size + 1, off := 1 } (Value.slice oa ol oc)) hb (.bool sb) (.slice sa sl sc) (.bool ob) (.slice oa ol oc)
    have T := trat_of (rnum_other Nx xr hk') (rnum_other Ny xr hk') H0.out
    have CB := ((((CC.setCell (p := ⟨w.heap.size + 1 + 1, 0, none⟩) (show w.heap.size ≤ w.heap.size + 1 + 1 by omega) (.bool sb)).setCell (p := ⟨w.heap.size + 1 + 1, 1, none⟩) (show w.heap.size ≤ w.heap.size + 1 + 1 by omega) (.slice sa sl sc)).setCell (p := ⟨w.heap.size + 1 + 1, 2, none⟩) (show w.heap.size ≤ w.heap.size + 1 + 1 by omega) (.bool ob)).setCell (p := ⟨w.heap.size + 1 + 1, 3, none⟩) (show w.heap.size ≤ w.heap.size + 1 + 1 by omega) (.slice oa ol oc))
    obtain ⟨r0, r1, r2, r3⟩ := four_cell hr'
    have HO := hid (And.intro r0 (And.intro r1 (And.intro r2 r3)))
    clear r0 r1 r2 r3 hr' hk' yp yq yr yg Mp My Mg CD n10 m10 hb10 HL2
    go_wp2
    clear u0 u1 f0 f1 k0 k1 k2 k3 i0 i1 i2 i3 j0 zp zq zr
    generalize (((((w10.setCell { block := w.heap.size + 1, off := 0 } (Value.bool ob)).setCell { block := w.heap.size + 1, off := 1 } (Value.slice oa ol oc)).setCell { block := w.heap.size + 1 + 1, off := 0 } (Value.bool sb)).setCell { block := w.heap.size + 1 + 1, off := 1 } (Value.slice sa sl sc)).setCell { block := w.heap.size + 1 + 1, off := 2 } (Value.bool ob)).setCell { block := w.heap.size + 1 + 1, off := 3 } (Value.slice oa ol oc) = Y at *
    exact bodyPost_ret (v := .tuple #[.agg #[.bool sb, .slice sa sl sc, .bool ob, .slice oa ol oc], .int .i64 0]) (by simp [results, Tryz.results68, go_sem, HO.out.1, HO.out.2.1, HO.out.2.2.1, HO.out.2.2.2]) rfl ⟨⟨_, rfl, T⟩, CB⟩
end Go.Proofs.YtcdkoadobdgbhaaGreatDoor
/- RatMakes: what the call answers. -/
namespace Go.Proofs.YtcdkoadobdgbhaaGreatDoor
open Go.RowKit
set_option linter.unusedVariables false
set_option maxRecDepth 100000
set_option linter.unusedSimpArgs false
attribute [local go_sem ↓] Go.wp_at_zero Go.wp_at_succ

open Classical in
noncomputable def zE (s : ByteArray) : Int := if ∃ z, ZTx s z then 0 else 10
theorem zE_cases (s : ByteArray) : (zE s = 0 ∧ ∃ z, ZTx s z) ∨ zE s = 10 := by
  by_cases h : ∃ z, ZTx s z
  · exact Or.inl ⟨by rw [zE, if_pos h], h⟩
  · exact Or.inr (by rw [zE, if_neg h])
theorem keepQ {W X : World} {p q : Nat} {x0 x1 x2 x3 y0 y1 y2 y3 : Value} (h0 : W.cell? ⟨p, 0, none⟩ = some x0) (h1 : W.cell? ⟨p, 1, none⟩ = some x1) (h2 : W.cell? ⟨p, 2, none⟩ = some x2) (h3 : W.cell? ⟨p, 3, none⟩ = some x3) (k0 : W.cell? ⟨q, 0, none⟩ = some y0) (k1 : W.cell? ⟨q, 1, none⟩ = some y1) (k2 : W.cell? ⟨q, 2, none⟩ = some y2) (k3 : W.cell? ⟨q, 3, none⟩ = some y3) (h : Below W.heap.size W X) :
    X.cell? ⟨p, 0, none⟩ = some x0 ∧ X.cell? ⟨p, 1, none⟩ = some x1 ∧ X.cell? ⟨p, 2, none⟩ = some x2 ∧ X.cell? ⟨p, 3, none⟩ = some x3 ∧ X.cell? ⟨q, 0, none⟩ = some y0 ∧ X.cell? ⟨q, 1, none⟩ = some y1 ∧ X.cell? ⟨q, 2, none⟩ = some y2 ∧ X.cell? ⟨q, 3, none⟩ = some y3 := ⟨kc h h0, kc h h1, kc h h2, kc h h3, kc h k0, kc h k1, kc h k2, kc h k3⟩
theorem nparse_both (s : ByteArray) (w : World) (hs : s.size ≤ 1000000000) :
    Calls Tryz.prog 117 #[.string s] w fun e w' => ∃ ao l c d, e = .returned (.tuple #[.agg #[.slice ao l c, .bool d], .int .i64 (zE s)]) ∧ (∀ z, ZTx s z → NumIs w' (.agg #[.slice ao l c, .bool d]) z (s.size / 9 + 1)) ∧ Below w.heap.size w w' := by
  by_cases h : ∃ z, ZTx s z
  · obtain ⟨z, hz⟩ := h
    refine (nparse_z s z w hs hz).mono ?_
    rintro e w' ⟨ao, l, c, rfl, h1, h2⟩
    refine ⟨ao, l, c, _, by rw [zE, if_pos ⟨z, hz⟩], fun z' hz' => ?_, h2⟩
    obtain rfl := hz.uniq hz'
    exact ⟨ao, l, c, rfl, h1⟩
  · refine (nparse_none s w hs (fun z hz => h ⟨z, hz⟩)).mono ?_
    rintro e w' ⟨rfl, h2⟩
    exact ⟨none, 0, 0, false, by rw [zE, if_neg h], fun z hz => absurd ⟨z, hz⟩ h, h2⟩
theorem sparse_both (s : ByteArray) (w : World) (hs : s.size ≤ 1000000000) :
    Calls Tryz.prog 136 #[.string s] w fun e w' => ∃ ao l c d, e = .returned (.tuple #[.agg #[.bool d, .slice ao l c], .int .i64 (zE s)]) ∧ (∀ z, ZTx s z → RNumIs w' (.agg #[.bool d, .slice ao l c]) z (s.size / 9 + 1)) ∧ Below w.heap.size w w' := by
  by_cases h : ∃ z, ZTx s z
  · obtain ⟨z, hz⟩ := h
    refine (sparse_z s z w hs hz).mono ?_
    rintro e w' ⟨ao, l, c, rfl, h1, h2⟩
    refine ⟨ao, l, c, _, by rw [zE, if_pos ⟨z, hz⟩], fun z' hz' => ?_, h2⟩
    obtain rfl := hz.uniq hz'
    exact ⟨ao, l, c, rfl, h1⟩
  · refine (sparse_none s w hs (fun z hz => h ⟨z, hz⟩)).mono ?_
    rintro e w' ⟨rfl, h2⟩
    exact ⟨none, 0, 0, false, by rw [zE, if_neg h], fun z hz => absurd ⟨z, hz⟩ h, h2⟩
theorem tmake_any (w : World) (a b : Value) (x y : Int) (K : Nat) (hK : K ≤ 100000000) (ha : RNumIs w a x K) (hb : RNumIs w b y K) :
    Calls Tryz.prog 68 #[a, b] w fun e w' => (∃ a1 l1 c1 d1 a2 l2 c2 d2, e = .returned (.tuple #[.agg #[.bool d1, .slice a1 l1 c1, .bool d2, .slice a2 l2 c2], .int .i64 (mkE y)]) ∧ TRatIs w' (.agg #[.bool d1, .slice a1 l1 c1, .bool d2, .slice a2 l2 c2]) (mkN x y) (mkD x y) K) ∧ Below w.heap.size w w' := by
  by_cases h : y = 0
  · subst h
    refine (tmake_zero w a b x K hK ha hb).mono ?_
    rintro e w' ⟨rfl, h2⟩
    exact ⟨⟨none, 0, 0, false, none, 0, 0, false, by simp [mkE], by simp only [mkN, mkD, if_pos]; exact ⟨none, 0, 0, none, 0, 0, 0, rfl, ⟨none, 0, 0, rfl, (ref_zero w').mono (Nat.zero_le _)⟩, ⟨none, 0, 0, rfl, (ref_zero w').mono (Nat.zero_le _)⟩, Or.inr ⟨rfl, rfl⟩⟩⟩, h2⟩
  · obtain ⟨a1, l1, c1, b1, rfl⟩ := rnum_form ha
    obtain ⟨a2, l2, c2, b2, rfl⟩ := rnum_form hb
    refine (tmake_walk w a1 a2 l1 c1 l2 c2 b1 b2 x y K hK h ha hb).mono ?_
    rintro e w' ⟨⟨v, rfl, T⟩, h2⟩
    have T' := T
    obtain ⟨a3, l3, c3, a4, l4, c4, m, rfl, _⟩ := T'
    exact ⟨⟨a3, l3, c3, _, a4, l4, c4, _, by rw [mkE, if_neg h], by rw [mkN, if_neg h, mkD, if_neg h]; exact T⟩, h2⟩
end Go.Proofs.YtcdkoadobdgbhaaGreatDoor
