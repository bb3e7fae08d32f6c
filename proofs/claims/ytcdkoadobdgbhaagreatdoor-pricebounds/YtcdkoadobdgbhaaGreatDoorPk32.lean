/- RDivMod, RGcd, SQuo, SOf. -/
import Derived.Test.YtcdkoadobdgbhaaGreatDoorZRDiv
import Derived.Test.YtcdkoadobdgbhaaGreatDoorPk11
import Derived.Test.YtcdkoadobdgbhaaGreatDoorPk27
import Derived.Test.YtcdkoadobdgbhaaGreatDoorZNDiv
import Derived.Test.YtcdkoadobdgbhaaGreatDoorPk8
/- The document's DivMod, whole. -/
namespace Go.Proofs.YtcdkoadobdgbhaaGreatDoor
open Go.RowKit
set_option linter.unusedVariables false
set_option maxRecDepth 100000
set_option linter.unusedSimpArgs false

/-- Two variables of the document's numbers, however they came about. -/
def OutP (W X : World) (p q : Nat) (v1 v2 : Value) (m K n K' : Nat) : Prop := X.heap[p]? = some (.cells #[v1] 31 (0, 0)) ∧ X.heap[q]? = some (.cells #[v2] 31 (0, 0)) ∧ W.heap.size ≤ p ∧ W.heap.size ≤ q ∧ Below W.heap.size W X ∧ RefIs X (.agg #[v1]) m K ∧ RefIs X (.agg #[v2]) n K'
theorem out_eq {W X : World} {p q p' q' : Nat} {v1 v2 : Value} {m K n K' : Nat} (h : OutP W X p q v1 v2 m K n K') (hp : p = p') (hq : q = q') : OutP W X p' q' v1 v2 m K n K' := by subst hp hq; exact h
theorem out1 {W w3 : World} {v1 v2 : Value} {m K n K' : Nat} (D : Below W.heap.size W w3) (nq : RefIs w3 (.agg #[v1]) m K) (nr : RefIs w3 (.agg #[v2]) n K') : OutP W ((w3.alloc (.cells #[v1] 31)).alloc (.cells #[v2] 31)) w3.heap.size (w3.heap.size + 1) v1 v2 m K n K' :=
  have B := boxed2 (Below.refl w3.heap.size w3) (Obj.cells #[v1] 31) (Obj.cells #[v2] 31)
  ⟨boxed2_first _ _ _, boxed2_second _ _ _, D.size, Nat.le_succ_of_le D.size, chain2 D B, nq.below B, nr.below B⟩
theorem out2 {W w3 : World} {v1 v2 : Value} {m K n K' : Nat} (D : Below W.heap.size W w3) (nq : RefIs w3 (.agg #[v1]) m K) (nr : RefIs w3 (.agg #[v2]) n K') : OutP W ((w3.alloc (.cells #[v2] 31)).alloc (.cells #[v1] 31)) (w3.heap.size + 1) w3.heap.size v1 v2 m K n K' :=
  have B := boxed2 (Below.refl w3.heap.size w3) (Obj.cells #[v2] 31) (Obj.cells #[v1] 31)
  ⟨boxed2_second _ _ _, boxed2_first _ _ _, Nat.le_succ_of_le D.size, D.size, chain2 D B, nq.below B, nr.below B⟩
theorem out3 {W w3 : World} {g : Nat} {u v1 v2 : Value} {m K n K' : Nat} (D : Below W.heap.size W w3) (x : w3.heap[g]? = some (.cells #[u] 31 (0, 0))) (hg : W.heap.size ≤ g) (nq : RefIs w3 (.agg #[v1]) m K) (nr : RefIs w3 (.agg #[v2]) n K') : OutP W ((w3.setCell ⟨g, 0, none⟩ v1).alloc (.cells #[v2] 31)) g w3.heap.size v1 v2 m K n K' := by
  have e : (w3.setCell ⟨g, 0, none⟩ v1).heap.size = w3.heap.size := by simp
  have y := one_setCell (u := v1) x
  have b := box_new (w3.setCell ⟨g, 0, none⟩ v1) (Obj.cells #[v2] 31)
  rw [e] at b
  have B := (Below.refl (w3.setCell ⟨g, 0, none⟩ v1).heap.size _).alloc (Nat.le_refl _) (Obj.cells #[v2] 31)
  exact ⟨box_alloc y _, b, hg, D.size, below_alloc' (D.setCell (p := ⟨g, 0, none⟩) hg v1) (Nat.le_refl _) _, (nq.box x (by decide) v1).below B, (nr.box x (by decide) v1).below B⟩
theorem out5 {W w3 : World} {g : Nat} {u v1 v2 : Value} {m K n K' : Nat} (D : Below W.heap.size W w3) (x : w3.heap[g]? = some (.cells #[u] 31 (0, 0))) (hg : W.heap.size ≤ g) (nq : RefIs w3 (.agg #[v1]) m K) (nr : RefIs w3 (.agg #[v2]) n K') : OutP W ((w3.setCell ⟨g, 0, none⟩ v2).alloc (.cells #[v1] 31)) w3.heap.size g v1 v2 m K n K' := by
  obtain ⟨h1, h2, h3, h4, h5, h6, h7⟩ := out3 D x hg nr nq
  exact ⟨h2, h1, h4, h3, h5, h7, h6⟩
theorem out4 {W w3 : World} {g h : Nat} {u u' v1 v2 : Value} {m K n K' : Nat} (D : Below W.heap.size W w3) (x : w3.heap[g]? = some (.cells #[u] 31 (0, 0))) (y : w3.heap[h]? = some (.cells #[u'] 31 (0, 0))) (hg : W.heap.size ≤ g) (hh : W.heap.size ≤ h) (hne : g ≠ h) (nq : RefIs w3 (.agg #[v1]) m K) (nr : RefIs w3 (.agg #[v2]) n K') : OutP W ((w3.setCell ⟨g, 0, none⟩ v1).setCell ⟨h, 0, none⟩ v2) g h v1 v2 m K n K' := by
  have y' : (w3.setCell ⟨g, 0, none⟩ v1).heap[h]? = some (.cells #[u'] 31 (0, 0)) := box_set y (fun e => hne e.symm) v1
  exact ⟨box_set (one_setCell (u := v1) x) hne v2, one_setCell (u := v2) y', hg, hh, (D.setCell (p := ⟨g, 0, none⟩) hg v1).setCell (p := ⟨h, 0, none⟩) hh v2, (nq.box x (by decide) v1).box y' (by decide) v2, (nr.box x (by decide) v1).box y' (by decide) v2⟩
theorem keep3' {W X : World} {p q r : Addr} {a b c : Value} (h1 : W.cell? p = some a) (h2 : W.cell? q = some b) (h3 : W.cell? r = some c) (h : Below W.heap.size W X) : X.cell? p = some a ∧ X.cell? q = some b ∧ X.cell? r = some c := ⟨kc h h1, kc h h2, kc h h3⟩
set_option maxHeartbeats 1000000 in
theorem rdiv_one (w : World) (aa : Option Addr) (na ca gb cb d : Nat) (A : List Nat) (hA : R.Bd A) (hna : na ≤ 400000000) (hAl : A.length = na) (oa : w.ownsRow 0 3 1 (.slice aa na ca) na (i64s A)) (cB : w.cell? ⟨gb, 0, none⟩ = some (.int .i64 (d : Int))) (hcb : 1 ≤ cb) (hd0 : 0 < d) (hd : d < 1000000000) :
    Calls Tryz.prog 144 #[.agg #[.slice aa na ca], .agg #[.slice (some ⟨gb, 0, none⟩) 1 cb]] w fun e w' => (∃ q r, e = .returned (.tuple #[q, r, .int .i64 0]) ∧ RefIs w' q (R.val A / d) na ∧ RefIs w' r (R.val A % d) 3) ∧ Below w.heap.size w w' := by
  obtain ⟨hWb, b0, b1, b2, b3, s4⟩ := boxed4 w (Obj.cells #[Value.slice aa na ca] 31) (Obj.cells #[Value.slice (some ⟨gb, 0, none⟩) 1 cb] 31) (Obj.cells #[Value.slice none 0 0] 31) (Obj.cells #[Value.slice none 0 0] 31)
  have HN := hid hAl
  clear hAl
  have cB4 := kc hWb cB
  go_enter Tryz.func144, Tryz.ntmps144
  go_wp2_with fail
  generalize (((w.alloc (Obj.cells #[Value.slice aa na ca] 31)).alloc (Obj.cells #[Value.slice (some ⟨gb, 0, none⟩) 1 cb] 31)).alloc (Obj.cells #[Value.slice none 0 0] 31)).alloc (Obj.cells #[Value.slice none 0 0] 31) = W at *
  have HS4 := hid s4
  clear s4
  have t0 := cell_of_one b0
  have t1 := cell_of_one b1
  have z0 : Obj := Obj.cells #[Value.slice none 0 0] 31
  have D0 : Below W.heap.size W W.drew := (Below.refl _ _).drew
  go_region_held3 (fun w' => w'.cell? ⟨w.heap.size, 0, none⟩ = some (.slice aa na ca) ∧ w'.cell? ⟨w.heap.size + 1, 0, none⟩ = some (.slice (some ⟨gb, 0, none⟩) 1 cb) ∧ w'.cell? ⟨gb, 0, none⟩ = some (.int .i64 (d : Int))) ((refine keep3' t0 t1 cB4 ?_; first | exact D0 | exact below_alloc' D0 (Nat.le_refl _) _ | exact below_alloc' (below_alloc' D0 (Nat.le_refl _) _) (Nat.le_refl _) _ | exact D1 | exact below_alloc' D1 (Nat.le_refl _) _ | exact below_alloc' (below_alloc' D1 (Nat.le_refl _) _) (Nat.le_refl _) _ | exact D1.setCell E1 _ | exact D1.setCell E2 _ | exact (D1.setCell E1 _).setCell E2 _ | exact (D1.setCell E2 _).setCell E1 _ | exact (below_alloc' D1 (Nat.le_refl _) _).setCell E1 _ | exact below_alloc' (D1.setCell E1 _) (Nat.le_refl _) _ | exact below_alloc' (D1.setCell E2 _) (Nat.le_refl _) _)) (first
    | (go_at_call 165; refine (rone_walk _ aa na ca d A hA (by omega) HN.out hd0 hd ?_).mono ?_; (first | exact ownsRow_below oa (chain2 hWb D0) | exact ownsRow_below oa (chain2 hWb (below_alloc' D0 (Nat.le_refl _) _)) | exact ownsRow_below oa (chain2 hWb (below_alloc' (below_alloc' D0 (Nat.le_refl _) _) (Nat.le_refl _) _))); rintro e w3 ⟨⟨q, r, rfl, nq, nr⟩, hb3⟩; obtain ⟨p1, l1, c1, rfl⟩ := nq.form; obtain ⟨p2, l2, c2, rfl⟩ := nr.form; have D1 : Below W.heap.size W w3 := (by first | exact chain2 D0 hb3 | exact chain2 (below_alloc' D0 (Nat.le_refl _) _) hb3 | exact chain2 (below_alloc' (below_alloc' D0 (Nat.le_refl _) _) (Nat.le_refl _) _) hb3); have E1 : W.heap.size ≤ W.heap.size := Nat.le_refl _; have E2 : W.heap.size ≤ W.heap.size + 1 := Nat.le_succ _; (try have x1 : w3.heap[W.heap.size]? = some (Obj.cells #[Value.slice none 0 0] 31) := box_below hb3 (show (W.alloc (Obj.cells #[Value.slice none 0 0] 31)).drew.heap[W.heap.size]? = some (Obj.cells #[Value.slice none 0 0] 31) from box_new W (Obj.cells #[Value.slice none 0 0] 31)) (show W.heap.size < (W.alloc (Obj.cells #[Value.slice none 0 0] 31)).heap.size by simp)); (try have x1 : w3.heap[W.heap.size]? = some (Obj.cells #[Value.slice none 0 0] 31) := box_below hb3 (show ((W.alloc (Obj.cells #[Value.slice none 0 0] 31)).alloc (Obj.cells #[Value.slice none 0 0] 31)).drew.heap[W.heap.size]? = some (Obj.cells #[Value.slice none 0 0] 31) from boxed2_first W (Obj.cells #[Value.slice none 0 0] 31) (Obj.cells #[Value.slice none 0 0] 31)) (show W.heap.size < ((W.alloc (Obj.cells #[Value.slice none 0 0] 31)).alloc (Obj.cells #[Value.slice none 0 0] 31)).heap.size by simp; omega)); (try have x2 : w3.heap[W.heap.size + 1]? = some (Obj.cells #[Value.slice none 0 0] 31) := box_below hb3 (show ((W.alloc (Obj.cells #[Value.slice none 0 0] 31)).alloc (Obj.cells #[Value.slice none 0 0] 31)).drew.heap[W.heap.size + 1]? = some (Obj.cells #[Value.slice none 0 0] 31) from boxed2_second W (Obj.cells #[Value.slice none 0 0] 31) (Obj.cells #[Value.slice none 0 0] 31)) (show W.heap.size + 1 < ((W.alloc (Obj.cells #[Value.slice none 0 0] 31)).alloc (Obj.cells #[Value.slice none 0 0] 31)).heap.size by simp)); (try have q1 : W.heap.size < w3.heap.size := lt_of_block x1); (try have q2 : W.heap.size ≠ w3.heap.size := Nat.ne_of_lt q1); (try have q3 : w3.heap.size ≠ W.heap.size := fun e => q2 e.symm); (try have y1 := cell_of_one x1); (try have g1 := free_of_one x1); (try have y2 := cell_of_one x2); (try have g2 := free_of_one x2); (try have hx1p := cell_of_one (box_set x1 (show W.heap.size ≠ W.heap.size + 1 by omega) (.slice p1 l1 c1))); (try have kx1p := free_of_one (box_set x1 (show W.heap.size ≠ W.heap.size + 1 by omega) (.slice p1 l1 c1))); (try have hx1p := cell_of_one (box_set x1 (show W.heap.size ≠ W.heap.size + 1 by omega) (.slice p2 l2 c2))); (try have kx1p := free_of_one (box_set x1 (show W.heap.size ≠ W.heap.size + 1 by omega) (.slice p2 l2 c2))); (try have hx2p := cell_of_one (box_set x2 (show W.heap.size + 1 ≠ W.heap.size by omega) (.slice p1 l1 c1))); (try have kx2p := free_of_one (box_set x2 (show W.heap.size + 1 ≠ W.heap.size by omega) (.slice p1 l1 c1))); (try have hx2p := cell_of_one (box_set x2 (show W.heap.size + 1 ≠ W.heap.size by omega) (.slice p2 l2 c2))); (try have kx2p := free_of_one (box_set x2 (show W.heap.size + 1 ≠ W.heap.size by omega) (.slice p2 l2 c2))); (try have az := cell_of_one (box_alloc x1 (Obj.cells #[Value.slice none 0 0] 31))); (try have fz := free_of_one (box_alloc x1 (Obj.cells #[Value.slice none 0 0] 31))); (try have ap := cell_of_one (box_alloc x1 (Obj.cells #[Value.slice p1 l1 c1] 31))); (try have fp := free_of_one (box_alloc x1 (Obj.cells #[Value.slice p1 l1 c1] 31))); (try have ar := cell_of_one (box_alloc x1 (Obj.cells #[Value.slice p2 l2 c2] 31))); (try have fr := free_of_one (box_alloc x1 (Obj.cells #[Value.slice p2 l2 c2] 31)))))
  all_goals
    first
      | (have U := out1 D1 nq nr; obtain ⟨X, hX⟩ : ∃ X, (w3.alloc (Obj.cells #[Value.slice p1 l1 c1] 31)).alloc (Obj.cells #[Value.slice p2 l2 c2] 31) = X := ⟨_, rfl⟩; rw [hX]; rw [hX] at U; clear hX; generalize w3.heap.size + 1 = q' at U ⊢; generalize w3.heap.size = p' at U ⊢)
      | (have U := out2 D1 nq nr; obtain ⟨X, hX⟩ : ∃ X, (w3.alloc (Obj.cells #[Value.slice p2 l2 c2] 31)).alloc (Obj.cells #[Value.slice p1 l1 c1] 31) = X := ⟨_, rfl⟩; rw [hX]; rw [hX] at U; clear hX; generalize w3.heap.size + 1 = p' at U ⊢; generalize w3.heap.size = q' at U ⊢)
      | (have U := out3 D1 x1 (Nat.le_refl _) nq nr; obtain ⟨X, hX⟩ : ∃ X, (w3.setCell ⟨W.heap.size, 0, none⟩ (Value.slice p1 l1 c1)).alloc (Obj.cells #[Value.slice p2 l2 c2] 31) = X := ⟨_, rfl⟩; rw [hX]; rw [hX] at U; clear hX; generalize w3.heap.size = q' at U ⊢; obtain ⟨p', hp'⟩ : ∃ p', p' = W.heap.size := ⟨_, rfl⟩; rw [← hp']; have U := out_eq U hp'.symm rfl; clear hp')
      | (have U := out5 D1 x1 (Nat.le_refl _) nq nr; obtain ⟨X, hX⟩ : ∃ X, (w3.setCell ⟨W.heap.size, 0, none⟩ (Value.slice p2 l2 c2)).alloc (Obj.cells #[Value.slice p1 l1 c1] 31) = X := ⟨_, rfl⟩; rw [hX]; rw [hX] at U; clear hX; generalize w3.heap.size = p' at U ⊢; obtain ⟨q', hq'⟩ : ∃ q', q' = W.heap.size := ⟨_, rfl⟩; rw [← hq']; have U := out_eq U rfl hq'.symm; clear hq')
      | (have U := out4 D1 x1 x2 (Nat.le_refl _) (Nat.le_succ _) (Nat.ne_of_lt (Nat.lt_succ_self _)) nq nr; obtain ⟨X, hX⟩ : ∃ X, (w3.setCell ⟨W.heap.size, 0, none⟩ (Value.slice p1 l1 c1)).setCell ⟨W.heap.size + 1, 0, none⟩ (Value.slice p2 l2 c2) = X := ⟨_, rfl⟩; rw [hX]; rw [hX] at U; clear hX; obtain ⟨q', hq'⟩ : ∃ q', q' = W.heap.size + 1 := ⟨_, rfl⟩; rw [← hq']; obtain ⟨p', hp'⟩ : ∃ p', p' = W.heap.size := ⟨_, rfl⟩; rw [← hp']; have U := out_eq U hp'.symm hq'.symm; clear hp' hq')
      | (have U := out4 D1 x2 x1 (Nat.le_succ _) (Nat.le_refl _) (Nat.ne_of_gt (Nat.lt_succ_self _)) nq nr; obtain ⟨X, hX⟩ : ∃ X, (w3.setCell ⟨W.heap.size + 1, 0, none⟩ (Value.slice p1 l1 c1)).setCell ⟨W.heap.size, 0, none⟩ (Value.slice p2 l2 c2) = X := ⟨_, rfl⟩; rw [hX]; rw [hX] at U; clear hX; obtain ⟨p', hp'⟩ : ∃ p', p' = W.heap.size + 1 := ⟨_, rfl⟩; rw [← hp']; obtain ⟨q', hq'⟩ : ∃ q', q' = W.heap.size := ⟨_, rfl⟩; rw [← hq']; have U := out_eq U hp'.symm hq'.symm; clear hp' hq')
    clear hb3 nq nr D1 D0
    try clear x1 y1 g1 q1 q2 q3 az fz ap fp ar fr
    try clear x2 y2 g2
    obtain ⟨h1, h2, h3, h4, h5, h6, h7⟩ := U
    have f0 := cell_of_one h1
    have f1 := cell_of_one h2
    have z2 := box_below h5 b2 (lt_of_block b2)
    have z3 := box_below h5 b3 (lt_of_block b3)
    have u2 := cell_of_one z2
    have v2 := free_of_one z2
    have u3 := cell_of_one z3
    have v3 := free_of_one z3
    have ne1 : p' ≠ w.heap.size + 1 + 1 := by have := HS4.out; omega
    have ne2 : p' ≠ w.heap.size + 1 + 1 + 1 := by have := HS4.out; omega
    have ne3 : q' ≠ w.heap.size + 1 + 1 := by have := HS4.out; omega
    have ne4 : q' ≠ w.heap.size + 1 + 1 + 1 := by have := HS4.out; omega
    obtain ⟨o1, o2, o3, o4, o5⟩ := rdiv_out (chain2 hWb h5) (show w.heap.size ≤ w.heap.size + 1 + 1 by omega) (show w.heap.size ≤ w.heap.size + 1 + 1 + 1 by omega) (by omega) z2 z3 h6 h7 (.slice p1 l1 c1) (.slice p2 l2 c2)
    have HO := hid (And.intro o1 (And.intro o2 (And.intro o3 (And.intro o4 o5))))
    clear o1 o2 o3 o4 o5 h1 h2 h3 h4 h6 h7 z2 z3 t0 t1 cB4
    go_wp2
    go_region
    all_goals
      clear f0 f1 u2 v2 u3 v3
      generalize (X.setCell ⟨w.heap.size + 1 + 1, 0, none⟩ (Value.slice p1 l1 c1)).setCell ⟨w.heap.size + 1 + 1 + 1, 0, none⟩ (Value.slice p2 l2 c2) = Z at *
      have HC : Hid (Z.drew.cell? ⟨w.heap.size + 1 + 1, 0, none⟩ = some (Value.slice p1 l1 c1) ∧ Z.drew.cell? ⟨w.heap.size + 1 + 1 + 1, 0, none⟩ = some (Value.slice p2 l2 c2)) := ⟨HO.out.2.2.2.1, HO.out.2.2.2.2⟩
      go_wp2
      exact bodyPost_ret (v := .tuple #[.agg #[.slice p1 l1 c1], .agg #[.slice p2 l2 c2], .int .i64 0]) (by simp [results, Tryz.results144, go_sem, HC.out.1, HC.out.2]) rfl ⟨⟨_, _, rfl, HO.out.1.below (Below.refl _ _).drew, HO.out.2.1.below (Below.refl _ _).drew⟩, HO.out.2.2.1.drew⟩
end Go.Proofs.YtcdkoadobdgbhaaGreatDoor
/- The document's DivMod in one, and its Gcd. -/
namespace Go.Proofs.YtcdkoadobdgbhaaGreatDoor
open Go.RowKit
set_option linter.unusedVariables false
set_option maxRecDepth 100000
set_option linter.unusedSimpArgs false

theorem RefIs.len {w : World} {ao : Option Addr} {l c n K : Nat} (h : RefIs w (.agg #[.slice ao l c]) n K) : ∃ L, w.ownsRow 0 3 1 (.slice ao l c) l (i64s L) ∧ R.Bd L ∧ Top L ∧ R.val L = n ∧ L.length = l ∧ l ≤ K ∧ (l = 0 ↔ n = 0) := by
  obtain ⟨sl, L, h1, h2, h3, h4, h5, h6⟩ := h
  simp only [Value.agg.injEq] at h1
  have e : sl = .slice ao l c := by simpa using h1.symm
  subst e
  have hl : L.length = l := by
    obtain ⟨ao', c', e⟩ := ints_slice h2
    simp only [Value.slice.injEq] at e
    exact e.2.1.symm
  rw [hl] at h2
  refine ⟨L, h2, h3, h4, h5, hl, by omega, ?_, ?_⟩
  · intro e; rw [← h5, List.eq_nil_of_length_eq_zero (by omega : L.length = 0)]; rfl
  · intro e
    rcases Nat.eq_zero_or_pos L.length with h | h
    · omega
    · exfalso
      obtain ⟨j, hj⟩ : ∃ j, L.length = j + 1 := ⟨L.length - 1, by omega⟩
      have ht : lg L j ≠ 0 := by have := h4 (by omega); rw [hj] at this; exact this
      have h7 : R.val L = R.pv L j + lg L j * 1000000000 ^ j := by unfold R.val; rw [hj]; simp only [R.pv]
      have h9 : 1 * 1000000000 ^ j ≤ lg L j * 1000000000 ^ j := Nat.mul_le_mul_right _ (by omega)
      have h8 : 0 < 1000000000 ^ j := Nat.pow_pos (by decide)
      omega
/-- The document's DivMod where the divisor is not 0. -/
theorem rdivmod_any (w : World) (a b : Value) (m n K K' : Nat) (hK : K ≤ 400000000) (hK' : K' ≤ 400000000) (ha : RefIs w a m K) (hb : RefIs w b n K') (h0 : n ≠ 0) :
    Calls Tryz.prog 144 #[a, b] w fun e w' => (∃ q r, e = .returned (.tuple #[q, r, .int .i64 0]) ∧ RefIs w' q (m / n) K ∧ RefIs w' r (m % n) K') ∧ Below w.heap.size w w' := by
  have hq : m / n < 1000000000 ^ K := Nat.lt_of_le_of_lt (Nat.div_le_self _ _) ha.lt
  have hr : m % n < 1000000000 ^ K' := Nat.lt_trans (Nat.mod_lt _ (by omega)) hb.lt
  obtain ⟨aa, la, ca, rfl⟩ := ha.form
  obtain ⟨ab, lb, cb, rfl⟩ := hb.form
  obtain ⟨A, oA, bA, tA, vA, lA, kA, zA⟩ := ha.len
  obtain ⟨B, oB, bB, tB, vB, lB, kB, zB⟩ := hb.len
  subst vA
  have hlb : lb ≠ 0 := fun e => h0 (zB.1 e)
  by_cases h1 : lb = 1
  · subst h1
    have hB1 : R.val B = lg B 0 := by unfold R.val; rw [lB]; simp [R.pv]
    rcases oB.2 with ⟨h', _⟩ | ⟨g, cap, cur, h', r1, r2, r3, _⟩
    · simp at h'
    simp only [Value.slice.injEq, true_and] at h'
    obtain ⟨rfl, rfl⟩ := h'
    have cB := i64s_at oB 0 (by omega)
    have hb0 := bB 0
    have hd0 : lg B 0 ≠ 0 := by rw [← hB1, vB]; exact h0
    refine (rdiv_one w aa la ca g cb (lg B 0) A bA (by omega) lA oA cB (by omega) (by omega) hb0).mono ?_
    rintro e w' ⟨⟨q, r, rfl, h1, h2⟩, hw⟩
    rw [← hB1, vB] at h1 h2
    exact ⟨⟨q, r, rfl, h1.fit hq, h2.fit hr⟩, hw⟩
  · refine (rdiv_long w aa ab la ca lb cb n A bA (by omega) (by omega) (by omega) lA oA (hb.fit (by have := R.val_lt bB; rw [vB, lB] at this; exact this)) (by omega)).mono ?_
    rintro e w' ⟨⟨q, r, rfl, h1, h2⟩, hw⟩
    exact ⟨⟨q, r, rfl, h1.fit hq, h2.fit hr⟩, hw⟩
theorem rone_set {w : World} {b : Nat} {u x : Value} {t : TypeId} (h : w.heap[b]? = some (.cells #[u] t (0, 0))) : (w.setCell ⟨b, 0, none⟩ x).heap[b]? = some (.cells #[x] t (0, 0)) := by
  have hlt := lt_of_block h
  have h' : w.heap[b] = .cells #[u] t (0, 0) := by simpa [Array.getElem?_eq_getElem hlt] using h
  show (w.heap.modify b _)[b]? = _
  simp [Array.getElem_modify, hlt, h']
def RGcdMem (w : World) (K p k : Nat) (ao : Option Addr) (la ca : Nat) (bo : Option Addr) (lb cb : Nat) (wr : World) : Prop :=
  RefIs wr (.agg #[.slice ao la ca]) p K ∧ RefIs wr (.agg #[.slice bo lb cb]) k K ∧ wr.heap[w.heap.size]? = some (Obj.cells #[.slice ao la ca] 31) ∧ wr.heap[w.heap.size + 1]? = some (Obj.cells #[.slice bo lb cb] 31) ∧ wr.heap[w.heap.size + 1 + 1]? = some (Obj.cells #[.slice none 0 0] 31) ∧ Below w.heap.size w wr ∧ w.heap.size + 1 + 1 < wr.heap.size
theorem RGcdMem.below {w : World} {K p k : Nat} {ao : Option Addr} {la ca : Nat} {bo : Option Addr} {lb cb : Nat} {wr X : World} (h : RGcdMem w K p k ao la ca bo lb cb wr) (hb : Below wr.heap.size wr X) : RGcdMem w K p k ao la ca bo lb cb X := by
  obtain ⟨h1, h2, h3, h4, h5, h6, h7⟩ := h
  have := hb.size
  exact ⟨h1.below hb, h2.below hb, box_below hb h3 (by omega), box_below hb h4 (by omega), box_below hb h5 (by omega), chain2 h6 hb, by omega⟩
theorem rgcd_cells {w w3 : World} {K p k r : Nat} {ao bo pr : Option Addr} {la ca lb cb lr cr : Nat} (h : RGcdMem w K p k ao la ca bo lb cb w3) (hr : RefIs w3 (.agg #[.slice pr lr cr]) r K) (o : Obj) :
    ((w3.alloc o).alloc (Obj.cells #[.slice pr lr cr] 31)).cell? ⟨w.heap.size, 0, none⟩ = some (.slice ao la ca) ∧ ((w3.alloc o).alloc (Obj.cells #[.slice pr lr cr] 31)).cell? ⟨w.heap.size + 1, 0, none⟩ = some (.slice bo lb cb) ∧ ((w3.alloc o).alloc (Obj.cells #[.slice pr lr cr] 31)).cell? ⟨w3.heap.size + 1, 0, none⟩ = some (.slice pr lr cr) ∧
    ((w3.alloc o).alloc (Obj.cells #[.slice pr lr cr] 31)).frozen? ⟨w.heap.size, 0, none⟩ = false ∧ ((w3.alloc o).alloc (Obj.cells #[.slice pr lr cr] 31)).frozen? ⟨w.heap.size + 1, 0, none⟩ = false ∧ w3.heap.size + 1 ≠ w.heap.size ∧ w3.heap.size + 1 ≠ w.heap.size + 1 := by
  obtain ⟨h1, h2, h3, h4, h5, h6, h7⟩ := h
  have b0 := box_alloc (box_alloc h3 o) (Obj.cells #[.slice pr lr cr] 31)
  have b1 := box_alloc (box_alloc h4 o) (Obj.cells #[.slice pr lr cr] 31)
  have b2 := boxed2_second w3 o (Obj.cells #[.slice pr lr cr] 31)
  exact ⟨cell_of_one b0, cell_of_one b1, cell_of_one b2, free_of_one b0, free_of_one b1, by omega, by omega⟩
theorem rgcd_turn {w w3 : World} {K p k m n : Nat} {ao bo pr : Option Addr} {la ca lb cb lr cr : Nat} (h : RGcdMem w K p k ao la ca bo lb cb w3) (hr : RefIs w3 (.agg #[.slice pr lr cr]) (p % k) K) (hg : Nat.gcd p k = Nat.gcd m n) (h0 : 0 < k) (o : Obj) :
    p % k < k ∧ Nat.gcd k (p % k) = Nat.gcd m n ∧ ∀ X, ((w3.alloc o).alloc (Obj.cells #[.slice pr lr cr] 31)) = X → RGcdMem w K k (p % k) bo lb cb pr lr cr ((X.setCell ⟨w.heap.size, 0, none⟩ (.slice bo lb cb)).setCell ⟨w.heap.size + 1, 0, none⟩ (.slice pr lr cr)) := by
  obtain ⟨h1, h2, h3, h4, h5, h6, h7⟩ := h
  refine ⟨Nat.mod_lt _ h0, by rw [← hg, Nat.gcd_comm k, ← Nat.gcd_rec, Nat.gcd_comm], ?_⟩
  rintro X rfl
  have B0 : Below w3.heap.size w3 ((w3.alloc o).alloc (Obj.cells #[.slice pr lr cr] 31)) := boxed2 (Below.refl _ _) _ _
  have b0 := box_below B0 h3 (by omega)
  have b1 := box_below B0 h4 (by omega)
  have b2 := box_below B0 h5 (by omega)
  have s0 := B0.size
  generalize ((w3.alloc o).alloc (Obj.cells #[.slice pr lr cr] 31)) = X at *
  have b1' := box_set b1 (show w.heap.size + 1 ≠ w.heap.size by omega) (.slice bo lb cb)
  refine ⟨((h2.below B0).box b0 (by decide) _).box b1' (by decide) _, ((hr.below B0).box b0 (by decide) _).box b1' (by decide) _, ?_, ?_, ?_, ?_, ?_⟩
  · exact box_set (rone_set b0) (by omega) _
  · exact rone_set b1'
  · exact box_set (box_set b2 (by omega) _) (by omega) _
  · exact ((chain2 h6 B0).setCell (p := ⟨w.heap.size, 0, none⟩) (Nat.le_refl _) _).setCell (p := ⟨w.heap.size + 1, 0, none⟩) (by show w.heap.size ≤ w.heap.size + 1; omega) _
  · have : ((X.setCell ⟨w.heap.size, 0, none⟩ (.slice bo lb cb)).setCell ⟨w.heap.size + 1, 0, none⟩ (.slice pr lr cr)).heap.size = X.heap.size := by simp
    omega
set_option maxHeartbeats 2000000 in
theorem rgcd_any (w : World) (a b : Value) (m n K : Nat) (hK : K ≤ 400000000) (ha : RefIs w a m K) (hb : RefIs w b n K) :
    Calls Tryz.prog 113 #[a, b] w fun e w' => ∃ v, e = .returned v ∧ RefIs w' v (Nat.gcd m n) K ∧ Below w.heap.size w w' := by
  obtain ⟨ao0, la0, ca0, rfl⟩ := ha.form
  obtain ⟨bo0, lb0, cb0, rfl⟩ := hb.form
  go_enter Tryz.func113, Tryz.ntmps113
  go_wp2
  have B3 := boxed3 (Below.refl w.heap.size w) (Obj.cells #[Value.slice ao0 la0 ca0] 31) (Obj.cells #[Value.slice bo0 lb0 cb0] 31) (Obj.cells #[Value.slice none 0 0] 31)
  have b0 := boxed3_first w (Obj.cells #[Value.slice ao0 la0 ca0] 31) (Obj.cells #[Value.slice bo0 lb0 cb0] 31) (Obj.cells #[Value.slice none 0 0] 31)
  have b1 := boxed3_second w (Obj.cells #[Value.slice ao0 la0 ca0] 31) (Obj.cells #[Value.slice bo0 lb0 cb0] 31) (Obj.cells #[Value.slice none 0 0] 31)
  have b2 := boxed3_third w (Obj.cells #[Value.slice ao0 la0 ca0] 31) (Obj.cells #[Value.slice bo0 lb0 cb0] 31) (Obj.cells #[Value.slice none 0 0] 31)
  have s3 : w.heap.size + 1 + 1 < (((w.alloc (Obj.cells #[Value.slice ao0 la0 ca0] 31)).alloc (Obj.cells #[Value.slice bo0 lb0 cb0] 31)).alloc (Obj.cells #[Value.slice none 0 0] 31)).heap.size := by simp
  generalize ((w.alloc (Obj.cells #[Value.slice ao0 la0 ca0] 31)).alloc (Obj.cells #[Value.slice bo0 lb0 cb0] 31)).alloc (Obj.cells #[Value.slice none 0 0] 31) = W at *
  have G0 := hid (show RGcdMem w K m n ao0 la0 ca0 bo0 lb0 cb0 W from ⟨ha.below B3, hb.below B3, b0, b1, b2, B3, s3⟩)
  clear B3 b0 b1 b2 s3 ha hb
  go_loopg [] n (fun k wr => ∃ p ao la ca bo lb cb, Hid (RGcdMem w K p k ao la ca bo lb cb wr) ∧ Hid (Nat.gcd p k = Nat.gcd m n))
  case atStart => exact ⟨m, _, _, _, _, _, _, G0, hid rfl⟩
  case round =>
    obtain ⟨p, ao, la, ca, bo, lb, cb, HG, HE⟩ := hrel
    have c0 := cell_of_one HG.out.2.2.1
    have c1 := cell_of_one HG.out.2.2.2.1
    have c2 := cell_of_one HG.out.2.2.2.2.1
    have f2 := free_of_one HG.out.2.2.2.2.1
    obtain ⟨LB, oB, bB, tB, vB, lB, kB, zB⟩ := HG.out.2.1.len
    obtain ⟨LA, oA, bA, tA, vA, lA, kA, zA⟩ := HG.out.1.len
    rcases Nat.eq_zero_or_pos gk with h0 | h0
    · have hl0 : lb = 0 := zB.2 h0
      subst hl0
      subst h0
      have hE := HE.out
      rw [Nat.gcd_zero_right] at hE
      have HE' := hid hE
      clear hE HE zA zB vA vB lA lB
      have n2 := HG.out.1.box HG.out.2.2.2.2.1 (by decide) (.slice ao la ca)
      have u2 := cell_of_one (rone_set HG.out.2.2.2.2.1 (x := .slice ao la ca))
      have B2 := HG.out.2.2.2.2.2.1.setCell (p := ⟨w.heap.size + 1 + 1, 0, none⟩) (by show w.heap.size ≤ w.heap.size + 1 + 1; omega) (.slice ao la ca)
      have HX := hid (And.intro n2 (And.intro u2 B2))
      clear n2 u2 B2
      go_wp2
      exact bodyPost_ret (v := .agg #[.slice ao la ca]) (by simp [results, Tryz.results113, go_sem, HX.out.2.1]) rfl ⟨_, rfl, by rw [← HE'.out]; exact HX.out.1, HX.out.2.2⟩
    · have hlb : 0 < (lb : Int) := by have := zB.1; omega
      have HL := hid (And.intro (And.intro vA lA) (And.intro vB lB))
      clear zA zB vA vB lA lB
      by_cases h2 : la ≤ 2
      · by_cases h3 : lb ≤ 2
        · have hx64 : p < 18446744073709551616 := by
            have h := R.pv_lt_word bA (by rw [HL.out.1.2]; exact h2)
            rw [HL.out.1.1] at h; omega
          have hy64 : gk < 18446744073709551616 := by
            have h := R.pv_lt_word bB (by rw [HL.out.2.2]; exact h3)
            rw [HL.out.2.1] at h; omega
          have hz64 : Nat.gcd p gk < 18446744073709551616 := Nat.lt_of_le_of_lt (Nat.gcd_le_right p h0) hy64
          have HWA := hid (fun w' (h' : Below wr.heap.size wr w') => rword_walk w' ao la ca LA bA (by omega) HL.out.1.2 (by rw [HL.out.1.1]; exact hx64) (ownsRow_below oA h'))
          have HWB := hid (fun w' (h' : Below wr.heap.size wr w') => rword_walk w' bo lb cb LB bB (by omega) HL.out.2.2 (by rw [HL.out.2.1]; exact hy64) (ownsRow_below oB h'))
          rw [HL.out.1.1] at HWA
          rw [HL.out.2.1] at HWB
          have C0 : Below wr.heap.size wr wr.drew := (Below.refl _ _).drew
          have e0' : wr.drew.cell? ⟨w.heap.size, 0, none⟩ = some (.slice ao la ca) := c0
          have e1' : wr.drew.cell? ⟨w.heap.size + 1, 0, none⟩ = some (.slice bo lb cb) := c1
          obtain ⟨z, hze⟩ : ∃ z, Nat.gcd p gk = z := ⟨_, rfl⟩
          have HW := hid (fun w' => rgcdw_any w' p gk hx64 hy64)
          rw [hze] at hz64 HW
          have HZ := hid (hze.symm.trans HE.out)
          clear hze oA oB bA bB tA tB
          go_wp2
          go_region_held3 (fun w' => w'.cell? ⟨w.heap.size, 0, none⟩ = some (.slice ao la ca) ∧ w'.cell? ⟨w.heap.size + 1, 0, none⟩ = some (.slice bo lb cb)) ((first | exact ⟨e0', e1'⟩ | exact K1 | exact K2 | exact K3 | exact K4 | exact K5)) (first
            | (have gg := C3; go_at_call 67; refine (rof_any z hz64 _).mono ?_; rintro e w6 ⟨v6, rfl, n6, hb6⟩; obtain ⟨a6, l6, c6, rfl⟩ := n6.form; have C4 := chain2 C3 hb6; have M6 := HG.out.below C4; have K4 := And.intro (kc hb6 K3.1) (kc hb6 K3.2); have u6 := cell_of_one M6.2.2.2.2.1; have f6 := free_of_one M6.2.2.2.2.1; have K5 : (w6.setCell ⟨w.heap.size + 1 + 1, 0, none⟩ (.slice a6 l6 c6)).cell? ⟨w.heap.size, 0, none⟩ = some (.slice ao la ca) ∧ (w6.setCell ⟨w.heap.size + 1 + 1, 0, none⟩ (.slice a6 l6 c6)).cell? ⟨w.heap.size + 1, 0, none⟩ = some (.slice bo lb cb) := And.intro (cell_of_one (box_set M6.2.2.1 (by omega) _)) (cell_of_one (box_set M6.2.2.2.1 (by omega) _)))
            | (have gg := C2; go_at_call 142; refine (HW.out _).mono ?_; rintro e w5 ⟨rfl, hb5⟩; have C3 := chain2 C2 hb5; have K3 := And.intro (kc hb5 K2.1) (kc hb5 K2.2))
            | (have gg := C1; go_at_call 143; refine (HWB.out _ C1).mono ?_; rintro e w4 ⟨rfl, hb4⟩; have C2 := chain2 C1 hb4; have K2 := And.intro (kc hb4 K1.1) (kc hb4 K1.2))
            | (have gg := C0; go_at_call 143; refine (HWA.out _ C0).mono ?_; rintro e w3 ⟨rfl, hb3⟩; have C1 := chain2 C0 hb3; have K1 := And.intro (kc hb3 e0') (kc hb3 e1')))
          have n7 := n6.box M6.2.2.2.2.1 (by decide) (.slice a6 l6 c6)
          have B7 := M6.2.2.2.2.2.1.setCell (p := ⟨w.heap.size + 1 + 1, 0, none⟩) (by show w.heap.size ≤ w.heap.size + 1 + 1; omega) (.slice a6 l6 c6)
          have c7 := cell_of_one (rone_set M6.2.2.2.2.1 (x := .slice a6 l6 c6))
          have n8 := n7.fit (show z < 1000000000 ^ K by have h := HG.out.2.1.lt; have h' := HZ.out; rw [← HE.out] at h'; exact h' ▸ Nat.lt_of_le_of_lt (Nat.gcd_le_right p h0) h)
          clear n7 n6 M6 C1 C2 C3 C4 K1 K2 K3 K4 K5 hb3 hb4 hb5 hb6 u6 f6 e0' e1'
          generalize w6.setCell ⟨w.heap.size + 1 + 1, 0, none⟩ (.slice a6 l6 c6) = X at *
          go_wp2
          exact bodyPost_ret (v := .agg #[.slice a6 l6 c6]) (by simp [results, Tryz.results113, go_sem, c7]) rfl ⟨_, rfl, by rw [← HZ.out]; exact n8, B7⟩
        · go_wp2_with fail
          refine (rdivmod_any wr _ _ p gk K K hK hK HG.out.1 HG.out.2.1 (by omega)).mono ?_
          rintro e w3 ⟨⟨q, r, rfl, hq, hr⟩, hb3⟩
          obtain ⟨pq, lq, cq, rfl⟩ := hq.form
          obtain ⟨pr, lr, cr, rfl⟩ := hr.form
          have HG3 := hid (HG.out.below hb3)
          have HR := hid hr
          have HZ := hid (rgcd_turn HG3.out HR.out HE.out h0 (Obj.cells #[Value.slice pq lq cq] 31))
          have HZX := HZ.out.2.2 _ rfl
          obtain ⟨h4, h5, h6, h7, h8, h9, h10⟩ := rgcd_cells HG3.out HR.out (Obj.cells #[Value.slice pq lq cq] 31)
          clear hq hr hb3 c0 c1 c2 f2
          go_wp2
          have HM := hid HZX
          clear h4 h5 h6 h7 h8 HZX
          generalize p % gk = rr at *
          go_roundg rr
          case rel => exact ⟨gk, _, _, _, _, _, _, HM, hid HZ.out.2.1⟩
          case measure => exact HZ.out.1
      · go_wp2_with fail
        refine (rdivmod_any wr _ _ p gk K K hK hK HG.out.1 HG.out.2.1 (by omega)).mono ?_
        rintro e w3 ⟨⟨q, r, rfl, hq, hr⟩, hb3⟩
        obtain ⟨pq, lq, cq, rfl⟩ := hq.form
        obtain ⟨pr, lr, cr, rfl⟩ := hr.form
        have HG3 := hid (HG.out.below hb3)
        have HR := hid hr
        have HZ := hid (rgcd_turn HG3.out HR.out HE.out h0 (Obj.cells #[Value.slice pq lq cq] 31))
        have HZX := HZ.out.2.2 _ rfl
        obtain ⟨h4, h5, h6, h7, h8, h9, h10⟩ := rgcd_cells HG3.out HR.out (Obj.cells #[Value.slice pq lq cq] 31)
        clear hq hr hb3 c0 c1 c2 f2
        go_wp2
        have HM := hid HZX
        clear h4 h5 h6 h7 h8 HZX
        generalize p % gk = rr at *
        go_roundg rr
        case rel => exact ⟨gk, _, _, _, _, _, _, HM, hid HZ.out.2.1⟩
        case measure => exact HZ.out.1
end Go.Proofs.YtcdkoadobdgbhaaGreatDoor
/- The document's whole numbers: QuoRem. -/
namespace Go.Proofs.YtcdkoadobdgbhaaGreatDoor
open Go.RowKit
set_option linter.unusedVariables false
set_option maxRecDepth 100000
set_option linter.unusedSimpArgs false
attribute [local go_sem ↓] Go.wp_at_zero Go.wp_at_succ

/-- Two of the document's whole numbers that are written into their variables. -/
theorem sdiv_out {w0 w1 : World} {p q : Nat} {u v u' v' : Value} {a1 a2 : Option Addr} {l1 c1 l2 c2 m n K K' : Nat} {x1 x2 : Value} (hb : Below w0.heap.size w0 w1) (hp : w0.heap.size ≤ p) (hq : w0.heap.size ≤ q) (hne : p ≠ q) (h1 : w1.heap[p]? = some (.cells #[u, v] 33 (0, 0))) (h2 : w1.heap[q]? = some (.cells #[u', v'] 33 (0, 0)))
    (hx : RefIs w1 (.agg #[.slice a1 l1 c1]) m K) (hy : RefIs w1 (.agg #[.slice a2 l2 c2]) n K') (X : World) (hX : X = ((((w1.setCell ⟨p, 0, none⟩ x1).setCell ⟨p, 1, none⟩ (.slice a1 l1 c1)).setCell ⟨q, 0, none⟩ x2).setCell ⟨q, 1, none⟩ (.slice a2 l2 c2))) :
    RefIs X (.agg #[.slice a1 l1 c1]) m K ∧ RefIs X (.agg #[.slice a2 l2 c2]) n K' ∧ Below w0.heap.size w0 X ∧ X.cell? ⟨p, 0, none⟩ = some x1 ∧ X.cell? ⟨p, 1, none⟩ = some (.slice a1 l1 c1) ∧ X.cell? ⟨q, 0, none⟩ = some x2 ∧ X.cell? ⟨q, 1, none⟩ = some (.slice a2 l2 c2) := by
  subst hX
  obtain ⟨k0, k1, kB⟩ := end_two hb hp h1 x1 (.slice a1 l1 c1)
  have h3 := box_set2 h2 (fun e => hne e.symm) x1 (.slice a1 l1 c1)
  obtain ⟨k2, k3, kC⟩ := end_two kB hq h3 x2 (.slice a2 l2 c2)
  exact ⟨(hx.box2 h1 (by decide) _ _).box2 h3 (by decide) _ _, (hy.box2 h1 (by decide) _ _).box2 h3 (by decide) _ _, kC, two_keep0 k0 hne _ _, two_keep0 k1 hne _ _, k2, k3⟩
set_option maxHeartbeats 2000000 in
theorem squo_walk (w : World) (aa ab : Option Addr) (la ca lb cb m n K : Nat) (b b' : Bool) (hK : K ≤ 100000000) (na0 : RefIs w (.agg #[.slice aa la ca]) m K) (nb0 : RefIs w (.agg #[.slice ab lb cb]) n K) (h0 : n ≠ 0) :
    Calls Tryz.prog 114 #[.agg #[.bool b, .slice aa la ca], .agg #[.bool b', .slice ab lb cb]] w fun e w' => (∃ q r, e = .returned (.tuple #[q, r, .int .i64 0]) ∧ RNumIs w' q (sgn (b != b') (m / n)) K ∧ RNumIs w' r (sgn b (m % n)) K) ∧ Below w.heap.size w w' := by
  obtain ⟨hB, hx, hz, hy, hy', s4⟩ := boxed4 w (Obj.cells #[.bool b, .slice aa la ca] 33) (Obj.cells #[.bool b', .slice ab lb cb] 33) (Obj.cells #[.bool false, .slice none 0 0] 33) (Obj.cells #[.bool false, .slice none 0 0] 33)
  go_enter Tryz.func114, Tryz.ntmps114
  go_wp2_with fail
  generalize (((w.alloc (Obj.cells #[.bool b, .slice aa la ca] 33)).alloc (Obj.cells #[.bool b', .slice ab lb cb] 33)).alloc (Obj.cells #[.bool false, .slice none 0 0] 33)).alloc (Obj.cells #[.bool false, .slice none 0 0] 33) = W at *
  have t1 := two_cell0 hx
  have t2 := two_cell1 hx
  have t3 := two_cell0 hz
  have t4 := two_cell1 hz
  refine (rdivmod_any W _ _ m n K K (by omega) (by omega) (na0.below hB) (nb0.below hB) h0).mono ?_
  rintro e w1 ⟨⟨q, r, rfl, nq, nr⟩, hb1⟩
  have hbx := hb1.size
  obtain ⟨aq, lq, cq, rfl⟩ := nq.form
  obtain ⟨ar, lr, cr, rfl⟩ := nr.form
  have X1 := boxed2 hb1 (Obj.cells #[Value.slice aq lq cq] 31) (Obj.cells #[Value.slice ar lr cr] 31)
  have Y1 := boxed2 (Below.refl w1.heap.size w1) (Obj.cells #[Value.slice aq lq cq] 31) (Obj.cells #[Value.slice ar lr cr] 31)
  have k5 := cell_of_one (boxed2_first w1 (Obj.cells #[Value.slice aq lq cq] 31) (Obj.cells #[Value.slice ar lr cr] 31))
  have k6 := cell_of_one (boxed2_second w1 (Obj.cells #[Value.slice aq lq cq] 31) (Obj.cells #[Value.slice ar lr cr] 31))
  have K0 := keepN t1 t2 t3 t4 X1
  have HY := hid (And.intro (box_below X1 hy (by omega)) (box_below X1 hy' (by omega)))
  have nq := nq.below Y1
  have nr := nr.below Y1
  have C1 := chain2 hB X1
  clear X1 Y1 t1 t2 t3 t4 hx hz hy hy' hb1 na0 nb0
  obtain ⟨t1, t2, t3, t4⟩ := K0
  have s1 : w.heap.size + 1 + 1 + 1 < w1.heap.size := by have := hbx; omega
  go_wp2
  generalize (w1.alloc (Obj.cells #[Value.slice aq lq cq] 31)).alloc (Obj.cells #[Value.slice ar lr cr] 31) = X1 at *
  have B0 : Below X1.heap.size X1 X1.drew := (Below.refl _ _).drew
  go_region_held3 (fun w' => w'.cell? ⟨w.heap.size, 0, none⟩ = some (.bool b) ∧ w'.cell? ⟨w.heap.size + 1, 0, none⟩ = some (.bool b') ∧ w'.cell? ⟨w1.heap.size, 0, none⟩ = some (.slice aq lq cq) ∧ w'.cell? ⟨w1.heap.size + 1, 0, none⟩ = some (.slice ar lr cr)) ((first | exact ⟨t1, t3, k5, k6⟩ | exact K1 | exact K2 | exact K3 | exact K4)) (first
    | (have gk := B1; go_at_call 66; refine (smake_any _ b _ _ _ (nr.below B1)).mono ?_; rintro e w3 ⟨v2, rfl, n2, hb3⟩; have B2 := chain2 B1 hb3; obtain ⟨p2, l2, c2, rfl, m2⟩ := n2; have m1 := m1.below hb3; have K2 := And.intro (kc B2 t1) (And.intro (kc B2 t3) (And.intro (kc B2 k5) (kc B2 k6))); have y1 := box_below B2 HY.out.1 (lt_of_block HY.out.1); have y2 := box_below B2 HY.out.2 (lt_of_block HY.out.2); have u0 := two_cell0 y1; have u1 := two_cell1 y1; have v0 := two_free (k := 0) y1; have v1 := two_free (k := 1) y1; have z1 := box_set2 y2 (show w.heap.size + 1 + 1 + 1 ≠ w.heap.size + 1 + 1 by omega) (.bool (decide (sgn (b != b') (m / n) < 0))) (.slice p1 l1 c1); have u2 := two_cell0 z1; have u3 := two_cell1 z1; have v2 := two_free (k := 0) z1; have v3 := two_free (k := 1) z1; have K3 := And.intro (two_keep0 K2.1 (show w.heap.size ≠ w.heap.size + 1 + 1 by omega) (.bool (decide (sgn (b != b') (m / n) < 0))) (.slice p1 l1 c1)) (And.intro (two_keep0 K2.2.1 (show w.heap.size + 1 ≠ w.heap.size + 1 + 1 by omega) (.bool (decide (sgn (b != b') (m / n) < 0))) (.slice p1 l1 c1)) (And.intro (two_keep0 K2.2.2.1 (show w1.heap.size ≠ w.heap.size + 1 + 1 by omega) (.bool (decide (sgn (b != b') (m / n) < 0))) (.slice p1 l1 c1)) (two_keep0 K2.2.2.2 (show w1.heap.size + 1 ≠ w.heap.size + 1 + 1 by omega) (.bool (decide (sgn (b != b') (m / n) < 0))) (.slice p1 l1 c1)))); have K4 := And.intro (two_keep0 K3.1 (show w.heap.size ≠ w.heap.size + 1 + 1 + 1 by omega) (.bool (decide (sgn b (m % n) < 0))) (.slice p2 l2 c2)) (And.intro (two_keep0 K3.2.1 (show w.heap.size + 1 ≠ w.heap.size + 1 + 1 + 1 by omega) (.bool (decide (sgn b (m % n) < 0))) (.slice p2 l2 c2)) (And.intro (two_keep0 K3.2.2.1 (show w1.heap.size ≠ w.heap.size + 1 + 1 + 1 by omega) (.bool (decide (sgn b (m % n) < 0))) (.slice p2 l2 c2)) (two_keep0 K3.2.2.2 (show w1.heap.size + 1 ≠ w.heap.size + 1 + 1 + 1 by omega) (.bool (decide (sgn b (m % n) < 0))) (.slice p2 l2 c2)))))
    | (have gk := B0; go_at_call 66; refine (smake_any _ (b != b') _ _ _ (nq.below B0)).mono ?_; rintro e w2 ⟨v1, rfl, n1, hb2⟩; have B1 := chain2 B0 hb2; obtain ⟨p1, l1, c1, rfl, m1⟩ := n1; have K1 := And.intro (kc B1 t1) (And.intro (kc B1 t3) (And.intro (kc B1 k5) (kc B1 k6)))))
  obtain ⟨o1, o2, o3, o4, o5, o6, o7⟩ := sdiv_out (chain2 C1 B2) (show w.heap.size ≤ w.heap.size + 1 + 1 by omega) (show w.heap.size ≤ w.heap.size + 1 + 1 + 1 by omega) (by omega) y1 y2 m1 m2 _ rfl (x1 := .bool (decide (sgn (b != b') (m / n) < 0))) (x2 := .bool (decide (sgn b (m % n) < 0)))
  have HO := hid (And.intro o1 (And.intro o2 o3))
  have HC := hid (And.intro o4 (And.intro o5 (And.intro o6 o7)))
  clear o1 o2 o3 o4 o5 o6 o7 y1 y2 z1 u0 u1 u2 u3 v0 v1 v2 v3 K1 K2 K3 K4 m1 m2 t1 t2 t3 t4 k5 k6 hb2 hb3 B1 B2 nq nr
  generalize ((((w3.setCell ⟨w.heap.size + 1 + 1, 0, none⟩ (Value.bool (decide (sgn (b != b') (m / n) < 0)))).setCell ⟨w.heap.size + 1 + 1, 1, none⟩ (Value.slice p1 l1 c1)).setCell ⟨w.heap.size + 1 + 1 + 1, 0, none⟩ (Value.bool (decide (sgn b (m % n) < 0)))).setCell ⟨w.heap.size + 1 + 1 + 1, 1, none⟩ (Value.slice p2 l2 c2)) = X at *
  go_wp2
  exact bodyPost_ret (v := .tuple #[.agg #[.bool (decide (sgn (b != b') (m / n) < 0)), .slice p1 l1 c1], .agg #[.bool (decide (sgn b (m % n) < 0)), .slice p2 l2 c2], .int .i64 0]) (by simp [results, Tryz.results114, go_sem, HC.out.1, HC.out.2.1, HC.out.2.2.1, HC.out.2.2.2]) rfl ⟨⟨_, _, rfl, ⟨p1, l1, c1, rfl, HO.out.1⟩, ⟨p2, l2, c2, rfl, HO.out.2.1⟩⟩, HO.out.2.2⟩
theorem squo_any (w : World) (a b : Value) (x y : Int) (K : Nat) (hK : K ≤ 100000000) (ha : RNumIs w a x K) (hb : RNumIs w b y K) (h0 : y ≠ 0) :
    Calls Tryz.prog 114 #[a, b] w fun e w' => (∃ q r, e = .returned (.tuple #[q, r, .int .i64 0]) ∧ RNumIs w' q (x.tdiv y) K ∧ RNumIs w' r (x.tmod y) K) ∧ Below w.heap.size w w' := by
  obtain ⟨aa, la, ca, rfl, na⟩ := ha
  obtain ⟨ab, lb, cb, rfl, nb⟩ := hb
  rw [← sgn_tdiv, ← sgn_tmod]
  exact squo_walk w aa ab la ca lb cb _ _ K _ _ hK na nb (by omega)
end Go.Proofs.YtcdkoadobdgbhaaGreatDoor
/- The document's whole numbers: QuoRem by 0; Of. -/
namespace Go.Proofs.YtcdkoadobdgbhaaGreatDoor
open Go.RowKit
set_option linter.unusedVariables false
set_option maxRecDepth 100000
set_option linter.unusedSimpArgs false
attribute [local go_sem ↓] Go.wp_at_zero Go.wp_at_succ

set_option maxHeartbeats 1000000 in
theorem sof_any (w : World) (z : Int) (h1 : -9223372036854775808 ≤ z) (h2 : z < 9223372036854775808) :
    Calls Tryz.prog 21 #[.int .i64 z] w fun e w' => ∃ v, e = .returned v ∧ RNumIs w' v z 3 ∧ Below w.heap.size w w' := by
  have hy := box_new w (Obj.cells #[.bool false, .slice none 0 0] 33)
  have hB : Below w.heap.size w (w.alloc (Obj.cells #[.bool false, .slice none 0 0] 33)) := (Below.refl _ _).alloc (Nat.le_refl _) _
  by_cases hz : 0 ≤ z
  · obtain ⟨m, hm⟩ : ∃ m : Nat, z = (m : Int) := ⟨z.natAbs, by omega⟩
    have hm2 : m < 18446744073709551616 := by omega
    subst hm
    have HS := hid (show sgn false m = (m : Int) by simp [sgn])
    go_enter Tryz.func21, Tryz.ntmps21
    go_wp2_with fail
    generalize w.alloc (Obj.cells #[.bool false, .slice none 0 0] 33) = W at *
    refine (rof_any m hm2 W).mono ?_
    rintro e w1 ⟨v1, rfl, n1, hb1⟩
    go_wp2_with fail
    refine (smake_any w1 false v1 m 3 n1).mono ?_
    rintro e w2 ⟨v2, rfl, n2, hb2⟩
    rw [HS.out] at n2
    obtain ⟨a2, l2, c2, rfl, m2⟩ := n2
    obtain ⟨d, hd⟩ : ∃ d, decide ((m : Int) < 0) = d := ⟨_, rfl⟩
    rw [hd]
    have HD := hid hd
    have y1 := box_below hb2 (box_below hb1 hy (lt_of_block hy)) (lt_of_block (box_below hb1 hy (lt_of_block hy)))
    have g0 := two_cell0 y1
    have g1 := two_cell1 y1
    have g2 := two_free (k := 0) y1
    have g3 := two_free (k := 1) y1
    obtain ⟨k0, k1, kB⟩ := end_two (chain2 (chain2 hB hb1) hb2) (Nat.le_refl _) y1 (.bool d) (.slice a2 l2 c2)
    have n4 := m2.box2 y1 (by decide) (.bool d) (.slice a2 l2 c2)
    have HK := hid (And.intro k0 (And.intro k1 (And.intro kB n4)))
    clear k0 k1 kB n4 m2 y1 hb1 hb2 n1 hd hy hB
    go_wp2
    exact bodyPost_ret (v := .agg #[.bool d, .slice a2 l2 c2]) (by simp [results, Tryz.results21, go_sem, HK.out.1, HK.out.2.1]) rfl ⟨_, rfl, ⟨a2, l2, c2, by rw [HD.out], HK.out.2.2.2⟩, HK.out.2.2.1⟩
  · obtain ⟨m, hm⟩ : ∃ m : Nat, z = -(m : Int) := ⟨z.natAbs, by omega⟩
    have HS := hid (show sgn true m = z by simp [sgn]; omega)
    have HM := hid (And.intro hm (show -(z + 1) + 1 = (m : Int) by omega))
    clear hm
    go_enter Tryz.func21, Tryz.ntmps21
    go_wp2_with fail
    generalize w.alloc (Obj.cells #[.bool false, .slice none 0 0] 33) = W at *
    refine (rof_lit m _ HM.out.2 (by have := HM.out.1; omega) W).mono ?_
    rintro e w1 ⟨v1, rfl, n1, hb1⟩
    go_wp2_with fail
    refine (smake_any w1 true v1 m 3 n1).mono ?_
    rintro e w2 ⟨v2, rfl, n2, hb2⟩
    rw [HS.out] at n2
    obtain ⟨a2, l2, c2, rfl, m2⟩ := n2
    obtain ⟨d, hd⟩ : ∃ d, decide (z < 0) = d := ⟨_, rfl⟩
    rw [hd]
    have HD := hid hd
    have y1 := box_below hb2 (box_below hb1 hy (lt_of_block hy)) (lt_of_block (box_below hb1 hy (lt_of_block hy)))
    have g0 := two_cell0 y1
    have g1 := two_cell1 y1
    have g2 := two_free (k := 0) y1
    have g3 := two_free (k := 1) y1
    obtain ⟨k0, k1, kB⟩ := end_two (chain2 (chain2 hB hb1) hb2) (Nat.le_refl _) y1 (.bool d) (.slice a2 l2 c2)
    have n4 := m2.box2 y1 (by decide) (.bool d) (.slice a2 l2 c2)
    have HK := hid (And.intro k0 (And.intro k1 (And.intro kB n4)))
    clear k0 k1 kB n4 m2 y1 hb1 hb2 n1 hd hy hB
    go_wp2
    exact bodyPost_ret (v := .agg #[.bool d, .slice a2 l2 c2]) (by simp [results, Tryz.results21, go_sem, HK.out.1, HK.out.2.1]) rfl ⟨_, rfl, ⟨a2, l2, c2, by rw [HD.out], HK.out.2.2.2⟩, HK.out.2.2.1⟩
end Go.Proofs.YtcdkoadobdgbhaaGreatDoor
