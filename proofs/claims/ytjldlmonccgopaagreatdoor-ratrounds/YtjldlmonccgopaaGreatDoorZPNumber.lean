/- Fractions of a law: number; Num. -/
import Derived.Test.YtjldlmonccgopaaGreatDoorZPTParse
namespace Go.Proofs.YtjldlmonccgopaaGreatDoor
open Go.RowKit
set_option linter.unusedVariables false
set_option maxRecDepth 100000
set_option linter.unusedSimpArgs false
attribute [local go_sem ↓] Go.wp_at_zero Go.wp_at_succ

theorem can_uniq {s : ByteArray} {n d n' d' : Int} (h : Can s n d) (k : Can s n' d') : n = n' ∧ d = d' := by
  obtain ⟨p, hc, _⟩ := cut_bar s
  by_cases hp : p < s.size
  · have a := (can_parts hc hp).1 h
    have b := (can_parts hc hp).1 k
    exact ⟨a.2.2.2.1.uniq b.2.2.2.1, a.2.2.2.2.uniq b.2.2.2.2⟩
  · have e : p = s.size := by have := hc.le; omega
    subst e
    have a := (can_whole hc).1 h
    have b := (can_whole hc).1 k
    exact ⟨a.2.uniq b.2, a.1.trans b.1.symm⟩
open Classical in
/-- What Parse of a fraction tells of a text. -/
noncomputable def cE (s : ByteArray) : Int := if ∃ n d, Can s n d then 0 else 10
theorem cE_cases (s : ByteArray) : (cE s = 0 ∧ ∃ n d, Can s n d) ∨ (cE s = 10 ∧ ∀ n d, ¬ Can s n d) := by
  by_cases h : ∃ n d, Can s n d
  · exact Or.inl ⟨by rw [cE, if_pos h], h⟩
  · exact Or.inr ⟨by rw [cE, if_neg h], fun n d k => h ⟨n, d, k⟩⟩
theorem qparse_both (s : ByteArray) (w : World) (hs : s.size ≤ 100000) (hm : Mx w) (htab : Tab w) :
    Calls Tryz.prog 23 #[.string s] w fun e w' => ∃ a1 l1 c1 d1 a2 l2 c2 d2, e = .returned (.tuple #[.agg #[.slice a1 l1 c1, .bool d1, .slice a2 l2 c2, .bool d2], .int .i64 (cE s)]) ∧ (∀ n d, Can s n d → RatIs w' (.agg #[.slice a1 l1 c1, .bool d1, .slice a2 l2 c2, .bool d2]) n d (s.size / 9 + 8)) ∧ Below w.heap.size w w' := by
  refine (qparse_any s w hs hm htab).mono ?_
  rintro e w' ⟨⟨n, d, v, h1, rfl, h2⟩ | ⟨h1, rfl⟩, hb⟩
  · obtain ⟨a1, l1, c1, d1, a2, l2, c2, d2, rfl⟩ := rat_form h2
    refine ⟨a1, l1, c1, d1, a2, l2, c2, d2, by rw [cE, if_pos ⟨n, d, h1⟩], fun n' d' k => ?_, hb⟩
    obtain ⟨rfl, rfl⟩ := can_uniq h1 k
    exact h2
  · exact ⟨none, 0, 0, false, none, 0, 0, false, by rw [cE, if_neg (fun ⟨n, d, k⟩ => h1 n d k)], fun n d k => absurd k (h1 n d), hb⟩
theorem tparse_both (s : ByteArray) (w : World) (hs : s.size ≤ 100000) :
    Calls Tryz.prog 24 #[.string s] w fun e w' => ∃ a1 l1 c1 d1 a2 l2 c2 d2, e = .returned (.tuple #[.agg #[.bool d1, .slice a1 l1 c1, .bool d2, .slice a2 l2 c2], .int .i64 (cE s)]) ∧ (∀ n d, Can s n d → TRatIs w' (.agg #[.bool d1, .slice a1 l1 c1, .bool d2, .slice a2 l2 c2]) n d (s.size / 9 + 8)) ∧ Below w.heap.size w w' := by
  refine (tparse_any s w hs).mono ?_
  rintro e w' ⟨⟨n, d, v, h1, rfl, h2⟩ | ⟨h1, rfl⟩, hb⟩
  · have h3 := h2
    obtain ⟨a1, l1, c1, a2, l2, c2, m, rfl, _⟩ := h3
    refine ⟨a1, l1, c1, _, a2, l2, c2, _, by rw [cE, if_pos ⟨n, d, h1⟩], fun n' d' k => ?_, hb⟩
    obtain ⟨rfl, rfl⟩ := can_uniq h1 k
    exact h2
  · exact ⟨none, 0, 0, false, none, 0, 0, false, by rw [cE, if_neg (fun ⟨n, d, k⟩ => h1 n d k)], fun n d k => absurd k (h1 n d), hb⟩
theorem num_keep {w w' : World} {r : Nat} {v : Value} {z : Int} {K : Nat} {c : Array Value} {t : TypeId} {fz : Nat × Nat} (h : NumIs w v z K) (hr : w.heap[r]? = some (.cells c t fz)) (ht : t ≠ 94) (hk : ∀ b, b ≠ r → w'.heap[b]? = w.heap[b]?) : NumIs w' v z K := by
  obtain ⟨ao, l, cp, h1, sl, L, g1, g2, g3⟩ := h
  refine ⟨ao, l, cp, h1, sl, L, g1, ⟨g2.1, ?_⟩, g3⟩
  rcases g2.2 with e | ⟨g, cap, cur, hv, hb, hh, rr⟩
  · exact Or.inl e
  · refine Or.inr ⟨g, cap, cur, hv, hb, (hk g ?_).trans hh, rr⟩
    intro e
    rw [e, hr] at hh
    simp only [Option.some.injEq, Obj.cells.injEq] at hh
    exact ht hh.2.1
theorem rnum_keep {w w' : World} {r : Nat} {v : Value} {z : Int} {K : Nat} {c : Array Value} {t : TypeId} {fz : Nat × Nat} (h : RNumIs w v z K) (hr : w.heap[r]? = some (.cells c t fz)) (ht : t ≠ 3) (hk : ∀ b, b ≠ r → w'.heap[b]? = w.heap[b]?) : RNumIs w' v z K := by
  obtain ⟨ao, l, cp, h1, sl, L, g1, g2, g3⟩ := h
  refine ⟨ao, l, cp, h1, sl, L, g1, ⟨g2.1, ?_⟩, g3⟩
  rcases g2.2 with e | ⟨g, cap, cur, hv, hb, hh, rr⟩
  · exact Or.inl e
  · refine Or.inr ⟨g, cap, cur, hv, hb, (hk g ?_).trans hh, rr⟩
    intro e
    rw [e, hr] at hh
    simp only [Option.some.injEq, Obj.cells.injEq] at hh
    exact ht hh.2.1
theorem RatIs.keep {w w' : World} {r : Nat} {v : Value} {n d : Int} {K : Nat} {c : Array Value} {t : TypeId} {fz : Nat × Nat} (h : RatIs w v n d K) (hr : w.heap[r]? = some (.cells c t fz)) (ht : t ≠ 94) (hk : ∀ b, b ≠ r → w'.heap[b]? = w.heap[b]?) : RatIs w' v n d K := by
  obtain ⟨a1, l1, c1, a2, l2, c2, h1, h2, h3⟩ := h
  exact ⟨a1, l1, c1, a2, l2, c2, h1, num_keep h2 hr ht hk, num_keep h3 hr ht hk⟩
theorem TRatIs.keep {w w' : World} {r : Nat} {v : Value} {n d : Int} {K : Nat} {c : Array Value} {t : TypeId} {fz : Nat × Nat} (h : TRatIs w v n d K) (hr : w.heap[r]? = some (.cells c t fz)) (ht : t ≠ 3) (hk : ∀ b, b ≠ r → w'.heap[b]? = w.heap[b]?) : TRatIs w' v n d K := by
  obtain ⟨a1, l1, c1, a2, l2, c2, m, h1, h2, h3, h4⟩ := h
  exact ⟨a1, l1, c1, a2, l2, c2, m, h1, rnum_keep h2 hr ht hk, rnum_keep h3 hr ht hk, h4⟩
theorem end_four {w W : World} {p : Nat} {u0 u1 u2 u3 v0 v1 v2 v3 : Value} {t t' : TypeId} (hw : Below w.heap.size w W) (hp : w.heap.size ≤ p) (hx : W.heap[p]? = some (.cells #[u0, u1, u2, u3] t (0, 0))) (hy : W.heap[p + 1]? = some (.cells #[v0, v1, v2, v3] t' (0, 0))) (x0 x1 x2 x3 y0 y1 y2 y3 : Value) :
    let U := (((W.setCell ⟨p, 0, none⟩ x0).setCell ⟨p, 1, none⟩ x1).setCell ⟨p, 2, none⟩ x2).setCell ⟨p, 3, none⟩ x3
    let V := (((U.setCell ⟨p + 1, 0, none⟩ y0).setCell ⟨p + 1, 1, none⟩ y1).setCell ⟨p + 1, 2, none⟩ y2).setCell ⟨p + 1, 3, none⟩ y3
    V.heap[p]? = some (.cells #[x0, x1, x2, x3] t (0, 0)) ∧ V.heap[p + 1]? = some (.cells #[y0, y1, y2, y3] t' (0, 0)) ∧ Below w.heap.size w V ∧ U.heap[p + 1]? = some (.cells #[v0, v1, v2, v3] t' (0, 0)) := by
  intro U V
  have k1 := p4_set hx x0 x1 x2 x3
  have k2 : U.heap[p + 1]? = _ := (p4_other x0 x1 x2 x3 (p + 1) (by omega)).trans hy
  have k3 := p4_set k2 y0 y1 y2 y3
  have k4 := (p4_other (w := U) (b := p + 1) y0 y1 y2 y3 p (by omega)).trans k1
  exact ⟨k4, k3, p4_below (p4_below hw hp x0 x1 x2 x3) (by omega) y0 y1 y2 y3, k2⟩
/-- What number answers. -/
def Num3 (s : ByteArray) (e : Ending) (w' : World) : Prop := ∃ a1 l1 c1 d1 a2 l2 c2 d2 a3 l3 c3 d3 a4 l4 c4 d4 bb, e = .returned (.tuple #[.agg #[.slice a1 l1 c1, .bool d1, .slice a2 l2 c2, .bool d2], .agg #[.bool d3, .slice a3 l3 c3, .bool d4, .slice a4 l4 c4], .bool bb, .bool true]) ∧ (bb = true → ∃ n d, Can s n d ∧ RatIs w' (.agg #[.slice a1 l1 c1, .bool d1, .slice a2 l2 c2, .bool d2]) n d (s.size / 9 + 8) ∧ TRatIs w' (.agg #[.bool d3, .slice a3 l3 c3, .bool d4, .slice a4 l4 c4]) n d (s.size / 9 + 8))
set_option maxHeartbeats 4000000 in
/-- number: the third answer tells whether it is a fraction's text; the fourth is true. -/
theorem number3_any (s : ByteArray) (w : World) (hs : s.size ≤ 100000) (hm : Mx w) (htab : Tab w) :
    Calls Tryz.prog 5 #[.string s] w fun e w' => Num3 s e w' ∧ Below w.heap.size w w' := by
  have hx := boxed2_first w (Obj.cells #[.slice none 0 0, .bool false, .slice none 0 0, .bool false] 29) (Obj.cells #[.bool false, .slice none 0 0, .bool false, .slice none 0 0] 36)
  have hy := boxed2_second w (Obj.cells #[.slice none 0 0, .bool false, .slice none 0 0, .bool false] 29) (Obj.cells #[.bool false, .slice none 0 0, .bool false, .slice none 0 0] 36)
  have hB := boxed2 (Below.refl w.heap.size w) (Obj.cells #[.slice none 0 0, .bool false, .slice none 0 0, .bool false] 29) (Obj.cells #[.bool false, .slice none 0 0, .bool false, .slice none 0 0] 36)
  go_enter Tryz.func5, Tryz.ntmps5
  go_wp2_with fail
  generalize (w.alloc (Obj.cells #[Value.slice none 0 0, .bool false, .slice none 0 0, .bool false] 29)).alloc (Obj.cells #[.bool false, .slice none 0 0, .bool false, .slice none 0 0] 36) = W at *
  refine (qparse_both s W hs (hm.below hB) (htab.below hB)).mono ?_
  rintro e w1 ⟨a1, l1, c1, d1, a2, l2, c2, d2, rfl, F1, b1⟩
  have x1 := (b1.block _ (lt_of_block hx)).trans hx
  have y1 := (b1.block _ (lt_of_block hy)).trans hy
  have B1 := chain2 hB b1
  have t1 := box_new w1 (Obj.cells #[.slice a1 l1 c1, .bool d1, .slice a2 l2 c2, .bool d2] 29)
  have b2 := (Below.refl w1.heap.size w1).alloc (Nat.le_refl _) (Obj.cells #[.slice a1 l1 c1, .bool d1, .slice a2 l2 c2, .bool d2] 29)
  have x2 := (b2.block _ (lt_of_block x1)).trans x1
  have y2 := (b2.block _ (lt_of_block y1)).trans y1
  have B2 := chain2 B1 b2
  have lt1 : w.heap.size + 1 < w1.heap.size := lt_of_block y1
  clear hx hy x1 y1 B1 b1 hB
  generalize hce : cE s = ce at *
  have HC := hid hce
  clear hce
  go_wp2_with fail
  generalize hW2 : w1.alloc (Obj.cells #[.slice a1 l1 c1, .bool d1, .slice a2 l2 c2, .bool d2] 29) = W2 at *
  clear hW2
  have hp := fun v => tparse_both s v hs
  rw [HC.out] at hp
  refine (hp W2).mono ?_
  rintro e w3 ⟨a3, l3, c3, d3, a4, l4, c4, d4, rfl, F3, b3⟩
  have F1 := fun n d h => ((F1 n d h).below b2).below b3
  have t3 := (b3.block _ (lt_of_block t1)).trans t1
  have x3 := (b3.block _ (lt_of_block x2)).trans x2
  have y3 := (b3.block _ (lt_of_block y2)).trans y2
  have B3 := chain2 B2 b3
  have lt3 : w1.heap.size < w3.heap.size := lt_of_block t3
  have u3 := box_new w3 (Obj.cells #[.bool d3, .slice a3 l3 c3, .bool d4, .slice a4 l4 c4] 36)
  have b4 := (Below.refl w3.heap.size w3).alloc (Nat.le_refl _) (Obj.cells #[.bool d3, .slice a3 l3 c3, .bool d4, .slice a4 l4 c4] 36)
  have F1 := fun n d h => (F1 n d h).below b4
  have F3 := fun n d h => (F3 n d h).below b4
  have t4 := (b4.block _ (lt_of_block t3)).trans t3
  have x4 := (b4.block _ (lt_of_block x3)).trans x3
  have y4 := (b4.block _ (lt_of_block y3)).trans y3
  have B4 := chain2 B3 b4
  clear hp t1 t3 x2 x3 y2 y3 B2 B3 b2 b3 b4
  have hcs : (ce = 0 ∧ ∃ n d, Can s n d) ∨ ce = 10 := by
    rcases cE_cases s with ⟨k1, k2⟩ | ⟨k1, _⟩
    · exact Or.inl ⟨HC.out.symm.trans k1, k2⟩
    · exact Or.inr (HC.out.symm.trans k1)
  have hne1 : w.heap.size ≠ w1.heap.size := by omega
  have hne2 : w.heap.size + 1 ≠ w1.heap.size := by omega
  have hne3 : w.heap.size ≠ w3.heap.size := by omega
  have hne4 : w.heap.size + 1 ≠ w3.heap.size := by omega
  rcases hcs with ⟨rfl, hcan⟩ | rfl
  all_goals
    clear HC
    go_wp2
    generalize w3.alloc (Obj.cells #[.bool d3, .slice a3 l3 c3, .bool d4, .slice a4 l4 c4] 36) = W4 at *
    clear lt1 lt3
    generalize w1.heap.size = k1 at *
    generalize w3.heap.size = k3 at *
    obtain ⟨i0, i1, i2, i3⟩ := four_cell t4
    obtain ⟨j0, j1, j2, j3⟩ := four_cell u3
    obtain ⟨p0, p1, p2, p3⟩ := four_cell x4
    obtain ⟨q0, q1, q2, q3⟩ := four_cell y4
    have fx := p4_free x4
    have fy := p4_free y4
    have HE := hid (end_four B4 (Nat.le_refl _) x4 y4 (.slice a1 l1 c1) (.bool d1) (.slice a2 l2 c2) (.bool d2) (.bool d3) (.slice a3 l3 c3) (.bool d4) (.slice a4 l4 c4))
    have HX := hid x4
    clear t4 u3 x4 y4
    go_region
    go_wp2
    obtain ⟨e1, e2, e3, e4⟩ := HE.out
    obtain ⟨m0, m1, m2, m3⟩ := four_cell e1
    obtain ⟨n0, n1, n2, n3⟩ := four_cell e2
  · refine bodyPost_ret (v := .tuple #[.agg #[.slice a1 l1 c1, .bool d1, .slice a2 l2 c2, .bool d2], .agg #[.bool d3, .slice a3 l3 c3, .bool d4, .slice a4 l4 c4], .bool true, .bool true]) ?_ rfl ⟨⟨a1, l1, c1, d1, a2, l2, c2, d2, a3, l3, c3, d3, a4, l4, c4, d4, true, rfl, fun _ => ?_⟩, e3.drew⟩
    · simp [results, Tryz.results5, go_sem, m0, m1, m2, m3, n0, n1, n2, n3]
    · obtain ⟨n, d, hc⟩ := hcan
      have R1 := ((F1 n d hc).keep HX.out (by decide) (p4_other (.slice a1 l1 c1) (.bool d1) (.slice a2 l2 c2) (.bool d2))).keep e4 (by decide) (p4_other (.bool d3) (.slice a3 l3 c3) (.bool d4) (.slice a4 l4 c4))
      have R2 := ((F3 n d hc).keep HX.out (by decide) (p4_other (.slice a1 l1 c1) (.bool d1) (.slice a2 l2 c2) (.bool d2))).keep e4 (by decide) (p4_other (.bool d3) (.slice a3 l3 c3) (.bool d4) (.slice a4 l4 c4))
      exact ⟨n, d, hc, R1.below ((Below.refl _ _).drew), R2.below ((Below.refl _ _).drew)⟩
  · refine bodyPost_ret (v := .tuple #[.agg #[.slice a1 l1 c1, .bool d1, .slice a2 l2 c2, .bool d2], .agg #[.bool d3, .slice a3 l3 c3, .bool d4, .slice a4 l4 c4], .bool false, .bool true]) ?_ rfl ⟨⟨a1, l1, c1, d1, a2, l2, c2, d2, a3, l3, c3, d3, a4, l4, c4, d4, false, rfl, fun h => by cases h⟩, e3.drew⟩
    simp [results, Tryz.results5, go_sem, m0, m1, m2, m3, n0, n1, n2, n3]
end Go.Proofs.YtjldlmonccgopaaGreatDoor
