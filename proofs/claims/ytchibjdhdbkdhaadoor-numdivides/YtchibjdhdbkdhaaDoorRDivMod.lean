/- The document's DivMod, whole. -/
import Derived.Test.YtchibjdhdbkdhaaDoorRDiv
namespace Go.Proofs.YtchibjdhdbkdhaaDoor
open Go.RowKit
set_option linter.unusedVariables false
set_option maxRecDepth 100000
set_option linter.unusedSimpArgs false

set_option maxHeartbeats 1000000 in
theorem rdiv_zero (w : World) (ao bo : Option Addr) (n c c' : Nat) :
    Calls Tryd.prog 41 #[.agg #[.slice ao n c], .agg #[.slice bo 0 c']] w fun e w' => e = .returned (.tuple #[.agg #[.slice none 0 0], .agg #[.slice none 0 0], .int .i64 12]) ∧ Below w.heap.size w w' := by
  have B4 := (boxed4 w (Obj.cells #[Value.slice ao n c] 29) (Obj.cells #[Value.slice bo 0 c'] 29) (Obj.cells #[Value.slice none 0 0] 29) (Obj.cells #[Value.slice none 0 0] 29)).1
  go_enter Tryd.func41, Tryd.ntmps41
  go_wp2
  exact bodyPost_ret (v := .tuple #[.agg #[.slice none 0 0], .agg #[.slice none 0 0], .int .i64 12]) (by simp [results, Tryd.results41, go_sem]) rfl ⟨rfl, B4⟩
/-- Two variables of the document's numbers, however they came about. -/
def OutP (W X : World) (p q : Nat) (v1 v2 : Value) (m K n K' : Nat) : Prop := X.heap[p]? = some (.cells #[v1] 29 (0, 0)) ∧ X.heap[q]? = some (.cells #[v2] 29 (0, 0)) ∧ W.heap.size ≤ p ∧ W.heap.size ≤ q ∧ Below W.heap.size W X ∧ RefIs X (.agg #[v1]) m K ∧ RefIs X (.agg #[v2]) n K'
theorem out_eq {W X : World} {p q p' q' : Nat} {v1 v2 : Value} {m K n K' : Nat} (h : OutP W X p q v1 v2 m K n K') (hp : p = p') (hq : q = q') : OutP W X p' q' v1 v2 m K n K' := by subst hp hq; exact h
theorem out1 {W w3 : World} {v1 v2 : Value} {m K n K' : Nat} (D : Below W.heap.size W w3) (nq : RefIs w3 (.agg #[v1]) m K) (nr : RefIs w3 (.agg #[v2]) n K') : OutP W ((w3.alloc (.cells #[v1] 29)).alloc (.cells #[v2] 29)) w3.heap.size (w3.heap.size + 1) v1 v2 m K n K' :=
  have B := boxed2 (Below.refl w3.heap.size w3) (Obj.cells #[v1] 29) (Obj.cells #[v2] 29)
  ⟨boxed2_first _ _ _, boxed2_second _ _ _, D.size, Nat.le_succ_of_le D.size, chain2 D B, nq.below B, nr.below B⟩
theorem out2 {W w3 : World} {v1 v2 : Value} {m K n K' : Nat} (D : Below W.heap.size W w3) (nq : RefIs w3 (.agg #[v1]) m K) (nr : RefIs w3 (.agg #[v2]) n K') : OutP W ((w3.alloc (.cells #[v2] 29)).alloc (.cells #[v1] 29)) (w3.heap.size + 1) w3.heap.size v1 v2 m K n K' :=
  have B := boxed2 (Below.refl w3.heap.size w3) (Obj.cells #[v2] 29) (Obj.cells #[v1] 29)
  ⟨boxed2_second _ _ _, boxed2_first _ _ _, Nat.le_succ_of_le D.size, D.size, chain2 D B, nq.below B, nr.below B⟩
theorem out3 {W w3 : World} {g : Nat} {u v1 v2 : Value} {m K n K' : Nat} (D : Below W.heap.size W w3) (x : w3.heap[g]? = some (.cells #[u] 29 (0, 0))) (hg : W.heap.size ≤ g) (nq : RefIs w3 (.agg #[v1]) m K) (nr : RefIs w3 (.agg #[v2]) n K') : OutP W ((w3.setCell ⟨g, 0, none⟩ v1).alloc (.cells #[v2] 29)) g w3.heap.size v1 v2 m K n K' := by
  have e : (w3.setCell ⟨g, 0, none⟩ v1).heap.size = w3.heap.size := by simp
  have y := one_setCell (u := v1) x
  have b := box_new (w3.setCell ⟨g, 0, none⟩ v1) (Obj.cells #[v2] 29)
  rw [e] at b
  have B := (Below.refl (w3.setCell ⟨g, 0, none⟩ v1).heap.size _).alloc (Nat.le_refl _) (Obj.cells #[v2] 29)
  exact ⟨box_alloc y _, b, hg, D.size, below_alloc' (D.setCell (p := ⟨g, 0, none⟩) hg v1) (Nat.le_refl _) _, (nq.box x (by decide) v1).below B, (nr.box x (by decide) v1).below B⟩
theorem out5 {W w3 : World} {g : Nat} {u v1 v2 : Value} {m K n K' : Nat} (D : Below W.heap.size W w3) (x : w3.heap[g]? = some (.cells #[u] 29 (0, 0))) (hg : W.heap.size ≤ g) (nq : RefIs w3 (.agg #[v1]) m K) (nr : RefIs w3 (.agg #[v2]) n K') : OutP W ((w3.setCell ⟨g, 0, none⟩ v2).alloc (.cells #[v1] 29)) w3.heap.size g v1 v2 m K n K' := by
  obtain ⟨h1, h2, h3, h4, h5, h6, h7⟩ := out3 D x hg nr nq
  exact ⟨h2, h1, h4, h3, h5, h7, h6⟩
theorem out4 {W w3 : World} {g h : Nat} {u u' v1 v2 : Value} {m K n K' : Nat} (D : Below W.heap.size W w3) (x : w3.heap[g]? = some (.cells #[u] 29 (0, 0))) (y : w3.heap[h]? = some (.cells #[u'] 29 (0, 0))) (hg : W.heap.size ≤ g) (hh : W.heap.size ≤ h) (hne : g ≠ h) (nq : RefIs w3 (.agg #[v1]) m K) (nr : RefIs w3 (.agg #[v2]) n K') : OutP W ((w3.setCell ⟨g, 0, none⟩ v1).setCell ⟨h, 0, none⟩ v2) g h v1 v2 m K n K' := by
  have y' : (w3.setCell ⟨g, 0, none⟩ v1).heap[h]? = some (.cells #[u'] 29 (0, 0)) := box_set y (fun e => hne e.symm) v1
  exact ⟨box_set (one_setCell (u := v1) x) hne v2, one_setCell (u := v2) y', hg, hh, (D.setCell (p := ⟨g, 0, none⟩) hg v1).setCell (p := ⟨h, 0, none⟩) hh v2, (nq.box x (by decide) v1).box y' (by decide) v2, (nr.box x (by decide) v1).box y' (by decide) v2⟩
theorem keep3' {W X : World} {p q r : Addr} {a b c : Value} (h1 : W.cell? p = some a) (h2 : W.cell? q = some b) (h3 : W.cell? r = some c) (h : Below W.heap.size W X) : X.cell? p = some a ∧ X.cell? q = some b ∧ X.cell? r = some c := ⟨kc h h1, kc h h2, kc h h3⟩
set_option maxHeartbeats 1000000 in
theorem rdiv_one (w : World) (aa : Option Addr) (na ca gb cb d : Nat) (A : List Nat) (hA : R.Bd A) (hna : na ≤ 400000000) (hAl : A.length = na) (oa : w.ownsRow 0 3 1 (.slice aa na ca) na (i64s A)) (cB : w.cell? ⟨gb, 0, none⟩ = some (.int .i64 (d : Int))) (hcb : 1 ≤ cb) (hd0 : 0 < d) (hd : d < 1000000000) :
    Calls Tryd.prog 41 #[.agg #[.slice aa na ca], .agg #[.slice (some ⟨gb, 0, none⟩) 1 cb]] w fun e w' => (∃ q r, e = .returned (.tuple #[q, r, .int .i64 0]) ∧ RefIs w' q (R.val A / d) na ∧ RefIs w' r (R.val A % d) 3) ∧ Below w.heap.size w w' := by
  obtain ⟨hWb, b0, b1, b2, b3, s4⟩ := boxed4 w (Obj.cells #[Value.slice aa na ca] 29) (Obj.cells #[Value.slice (some ⟨gb, 0, none⟩) 1 cb] 29) (Obj.cells #[Value.slice none 0 0] 29) (Obj.cells #[Value.slice none 0 0] 29)
  have HN := hid hAl
  clear hAl
  have cB4 := kc hWb cB
  go_enter Tryd.func41, Tryd.ntmps41
  go_wp2_with fail
  generalize (((w.alloc (Obj.cells #[Value.slice aa na ca] 29)).alloc (Obj.cells #[Value.slice (some ⟨gb, 0, none⟩) 1 cb] 29)).alloc (Obj.cells #[Value.slice none 0 0] 29)).alloc (Obj.cells #[Value.slice none 0 0] 29) = W at *
  have HS4 := hid s4
  clear s4
  have t0 := cell_of_one b0
  have t1 := cell_of_one b1
  have z0 : Obj := Obj.cells #[Value.slice none 0 0] 29
  have D0 : Below W.heap.size W W.drew := (Below.refl _ _).drew
  go_region_held3 (fun w' => w'.cell? ⟨w.heap.size, 0, none⟩ = some (.slice aa na ca) ∧ w'.cell? ⟨w.heap.size + 1, 0, none⟩ = some (.slice (some ⟨gb, 0, none⟩) 1 cb) ∧ w'.cell? ⟨gb, 0, none⟩ = some (.int .i64 (d : Int))) ((refine keep3' t0 t1 cB4 ?_; first | exact D0 | exact below_alloc' D0 (Nat.le_refl _) _ | exact below_alloc' (below_alloc' D0 (Nat.le_refl _) _) (Nat.le_refl _) _ | exact D1 | exact below_alloc' D1 (Nat.le_refl _) _ | exact below_alloc' (below_alloc' D1 (Nat.le_refl _) _) (Nat.le_refl _) _ | exact D1.setCell E1 _ | exact D1.setCell E2 _ | exact (D1.setCell E1 _).setCell E2 _ | exact (D1.setCell E2 _).setCell E1 _ | exact (below_alloc' D1 (Nat.le_refl _) _).setCell E1 _ | exact below_alloc' (D1.setCell E1 _) (Nat.le_refl _) _ | exact below_alloc' (D1.setCell E2 _) (Nat.le_refl _) _)) (first
    | (go_at_call 62; refine (rone_walk _ aa na ca d A hA (by omega) HN.out hd0 hd ?_).mono ?_; (first | exact ownsRow_below oa (chain2 hWb D0) | exact ownsRow_below oa (chain2 hWb (below_alloc' D0 (Nat.le_refl _) _)) | exact ownsRow_below oa (chain2 hWb (below_alloc' (below_alloc' D0 (Nat.le_refl _) _) (Nat.le_refl _) _))); rintro e w3 ⟨⟨q, r, rfl, nq, nr⟩, hb3⟩; obtain ⟨p1, l1, c1, rfl⟩ := nq.form; obtain ⟨p2, l2, c2, rfl⟩ := nr.form; have D1 : Below W.heap.size W w3 := (by first | exact chain2 D0 hb3 | exact chain2 (below_alloc' D0 (Nat.le_refl _) _) hb3 | exact chain2 (below_alloc' (below_alloc' D0 (Nat.le_refl _) _) (Nat.le_refl _) _) hb3); have E1 : W.heap.size ≤ W.heap.size := Nat.le_refl _; have E2 : W.heap.size ≤ W.heap.size + 1 := Nat.le_succ _; (try have x1 : w3.heap[W.heap.size]? = some (Obj.cells #[Value.slice none 0 0] 29) := box_below hb3 (show (W.alloc (Obj.cells #[Value.slice none 0 0] 29)).drew.heap[W.heap.size]? = some (Obj.cells #[Value.slice none 0 0] 29) from box_new W (Obj.cells #[Value.slice none 0 0] 29)) (show W.heap.size < (W.alloc (Obj.cells #[Value.slice none 0 0] 29)).heap.size by simp)); (try have x1 : w3.heap[W.heap.size]? = some (Obj.cells #[Value.slice none 0 0] 29) := box_below hb3 (show ((W.alloc (Obj.cells #[Value.slice none 0 0] 29)).alloc (Obj.cells #[Value.slice none 0 0] 29)).drew.heap[W.heap.size]? = some (Obj.cells #[Value.slice none 0 0] 29) from boxed2_first W (Obj.cells #[Value.slice none 0 0] 29) (Obj.cells #[Value.slice none 0 0] 29)) (show W.heap.size < ((W.alloc (Obj.cells #[Value.slice none 0 0] 29)).alloc (Obj.cells #[Value.slice none 0 0] 29)).heap.size by simp; omega)); (try have x2 : w3.heap[W.heap.size + 1]? = some (Obj.cells #[Value.slice none 0 0] 29) := box_below hb3 (show ((W.alloc (Obj.cells #[Value.slice none 0 0] 29)).alloc (Obj.cells #[Value.slice none 0 0] 29)).drew.heap[W.heap.size + 1]? = some (Obj.cells #[Value.slice none 0 0] 29) from boxed2_second W (Obj.cells #[Value.slice none 0 0] 29) (Obj.cells #[Value.slice none 0 0] 29)) (show W.heap.size + 1 < ((W.alloc (Obj.cells #[Value.slice none 0 0] 29)).alloc (Obj.cells #[Value.slice none 0 0] 29)).heap.size by simp)); (try have q1 : W.heap.size < w3.heap.size := lt_of_block x1); (try have q2 : W.heap.size ≠ w3.heap.size := Nat.ne_of_lt q1); (try have q3 : w3.heap.size ≠ W.heap.size := fun e => q2 e.symm); (try have y1 := cell_of_one x1); (try have g1 := free_of_one x1); (try have y2 := cell_of_one x2); (try have g2 := free_of_one x2); (try have hx1p := cell_of_one (box_set x1 (show W.heap.size ≠ W.heap.size + 1 by omega) (.slice p1 l1 c1))); (try have kx1p := free_of_one (box_set x1 (show W.heap.size ≠ W.heap.size + 1 by omega) (.slice p1 l1 c1))); (try have hx1p := cell_of_one (box_set x1 (show W.heap.size ≠ W.heap.size + 1 by omega) (.slice p2 l2 c2))); (try have kx1p := free_of_one (box_set x1 (show W.heap.size ≠ W.heap.size + 1 by omega) (.slice p2 l2 c2))); (try have hx2p := cell_of_one (box_set x2 (show W.heap.size + 1 ≠ W.heap.size by omega) (.slice p1 l1 c1))); (try have kx2p := free_of_one (box_set x2 (show W.heap.size + 1 ≠ W.heap.size by omega) (.slice p1 l1 c1))); (try have hx2p := cell_of_one (box_set x2 (show W.heap.size + 1 ≠ W.heap.size by omega) (.slice p2 l2 c2))); (try have kx2p := free_of_one (box_set x2 (show W.heap.size + 1 ≠ W.heap.size by omega) (.slice p2 l2 c2))); (try have az := cell_of_one (box_alloc x1 (Obj.cells #[Value.slice none 0 0] 29))); (try have fz := free_of_one (box_alloc x1 (Obj.cells #[Value.slice none 0 0] 29))); (try have ap := cell_of_one (box_alloc x1 (Obj.cells #[Value.slice p1 l1 c1] 29))); (try have fp := free_of_one (box_alloc x1 (Obj.cells #[Value.slice p1 l1 c1] 29))); (try have ar := cell_of_one (box_alloc x1 (Obj.cells #[Value.slice p2 l2 c2] 29))); (try have fr := free_of_one (box_alloc x1 (Obj.cells #[Value.slice p2 l2 c2] 29)))))
  all_goals
    first
      | (have U := out1 D1 nq nr; obtain ⟨X, hX⟩ : ∃ X, (w3.alloc (Obj.cells #[Value.slice p1 l1 c1] 29)).alloc (Obj.cells #[Value.slice p2 l2 c2] 29) = X := ⟨_, rfl⟩; rw [hX]; rw [hX] at U; clear hX; generalize w3.heap.size + 1 = q' at U ⊢; generalize w3.heap.size = p' at U ⊢)
      | (have U := out2 D1 nq nr; obtain ⟨X, hX⟩ : ∃ X, (w3.alloc (Obj.cells #[Value.slice p2 l2 c2] 29)).alloc (Obj.cells #[Value.slice p1 l1 c1] 29) = X := ⟨_, rfl⟩; rw [hX]; rw [hX] at U; clear hX; generalize w3.heap.size + 1 = p' at U ⊢; generalize w3.heap.size = q' at U ⊢)
      | (have U := out3 D1 x1 (Nat.le_refl _) nq nr; obtain ⟨X, hX⟩ : ∃ X, (w3.setCell ⟨W.heap.size, 0, none⟩ (Value.slice p1 l1 c1)).alloc (Obj.cells #[Value.slice p2 l2 c2] 29) = X := ⟨_, rfl⟩; rw [hX]; rw [hX] at U; clear hX; generalize w3.heap.size = q' at U ⊢; obtain ⟨p', hp'⟩ : ∃ p', p' = W.heap.size := ⟨_, rfl⟩; rw [← hp']; have U := out_eq U hp'.symm rfl; clear hp')
      | (have U := out5 D1 x1 (Nat.le_refl _) nq nr; obtain ⟨X, hX⟩ : ∃ X, (w3.setCell ⟨W.heap.size, 0, none⟩ (Value.slice p2 l2 c2)).alloc (Obj.cells #[Value.slice p1 l1 c1] 29) = X := ⟨_, rfl⟩; rw [hX]; rw [hX] at U; clear hX; generalize w3.heap.size = p' at U ⊢; obtain ⟨q', hq'⟩ : ∃ q', q' = W.heap.size := ⟨_, rfl⟩; rw [← hq']; have U := out_eq U rfl hq'.symm; clear hq')
      | (have U := out4 D1 x1 x2 (Nat.le_refl _) (Nat.le_succ _) (Nat.ne_of_lt (Nat.lt_succ_self _)) nq nr; obtain ⟨X, hX⟩ : ∃ X, (w3.setCell ⟨W.heap.size, 0, none⟩ (Value.slice p1 l1 c1)).setCell ⟨W.heap.size + 1, 0, none⟩ (Value.slice p2 l2 c2) = X := ⟨_, rfl⟩; rw [hX]; rw [hX] at U; clear hX; obtain ⟨q', hq'⟩ : ∃ q', q' = W.heap.size + 1 := ⟨_, rfl⟩; rw [← hq']; obtain ⟨p', hp'⟩ : ∃ p', p' = W.heap.size := ⟨_, rfl⟩; rw [← hp']; have U := out_eq U hp'.symm hq'.symm; clear hp' hq')
      | (have U := out4 D1 x2 x1 (Nat.le_succ _) (Nat.le_refl _) (Nat.ne_of_gt (Nat.lt_succ_self _)) nq nr; obtain ⟨X, hX⟩ : ∃ X, (w3.setCell ⟨W.heap.size + 1, 0, none⟩ (Value.slice p1 l1 c1)).setCell ⟨W.heap.size, 0, none⟩ (Value.slice p2 l2 c2) = X := ⟨_, rfl⟩; rw [hX]; rw [hX] at U; clear hX; obtain ⟨p', hp'⟩ : ∃ p', p' = W.heap.size + 1 := ⟨_, rfl⟩; rw [← hp']; obtain ⟨q', hq'⟩ : ∃ q', q' = W.heap.size := ⟨_, rfl⟩; rw [← hq']; have U := out_eq U hp'.symm hq'.symm; clear hp' hq')
    clear hb3 nq nr D1 D0
    try clear x1 y1 g1 q1 q2 q3 az fz ap fp ar fr
    try clear x2 y2 g2
    obtain ⟨h1, h2, h3, h4, h5, h6, h7⟩ := U
    have f0 := cell_of_one h1
    have f1 := cell_of_one h2
    have z2 := box_below h5 b2 (lt_of_block b2)
    have z3 := box_below h5 b3 (lt_of_block b3)
    have u2 := cell_of_one z2
    have v2 := free_of_one z2
    have u3 := cell_of_one z3
    have v3 := free_of_one z3
    have ne1 : p' ≠ w.heap.size + 1 + 1 := by have := HS4.out; omega
    have ne2 : p' ≠ w.heap.size + 1 + 1 + 1 := by have := HS4.out; omega
    have ne3 : q' ≠ w.heap.size + 1 + 1 := by have := HS4.out; omega
    have ne4 : q' ≠ w.heap.size + 1 + 1 + 1 := by have := HS4.out; omega
    obtain ⟨o1, o2, o3, o4, o5⟩ := rdiv_out (chain2 hWb h5) (show w.heap.size ≤ w.heap.size + 1 + 1 by omega) (show w.heap.size ≤ w.heap.size + 1 + 1 + 1 by omega) (by omega) z2 z3 h6 h7 (.slice p1 l1 c1) (.slice p2 l2 c2)
    have HO := hid (And.intro o1 (And.intro o2 (And.intro o3 (And.intro o4 o5))))
    clear o1 o2 o3 o4 o5 h1 h2 h3 h4 h6 h7 z2 z3 t0 t1 cB4
    go_wp2
    go_region
    all_goals
      clear f0 f1 u2 v2 u3 v3
      generalize (X.setCell ⟨w.heap.size + 1 + 1, 0, none⟩ (Value.slice p1 l1 c1)).setCell ⟨w.heap.size + 1 + 1 + 1, 0, none⟩ (Value.slice p2 l2 c2) = Z at *
      have HC : Hid (Z.drew.cell? ⟨w.heap.size + 1 + 1, 0, none⟩ = some (Value.slice p1 l1 c1) ∧ Z.drew.cell? ⟨w.heap.size + 1 + 1 + 1, 0, none⟩ = some (Value.slice p2 l2 c2)) := ⟨HO.out.2.2.2.1, HO.out.2.2.2.2⟩
      go_wp2
      exact bodyPost_ret (v := .tuple #[.agg #[.slice p1 l1 c1], .agg #[.slice p2 l2 c2], .int .i64 0]) (by simp [results, Tryd.results41, go_sem, HC.out.1, HC.out.2]) rfl ⟨⟨_, _, rfl, HO.out.1.below (Below.refl _ _).drew, HO.out.2.1.below (Below.refl _ _).drew⟩, HO.out.2.2.1.drew⟩
end Go.Proofs.YtchibjdhdbkdhaaDoor
