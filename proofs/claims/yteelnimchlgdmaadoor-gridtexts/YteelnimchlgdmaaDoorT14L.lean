/- grid: the program's laid. -/
import Derived.Test.YteelnimchlgdmaaDoorT14P
import Derived.Test.YteelnimchlgdmaaDoorKSplit
import Derived.Test.YteelnimchlgdmaaDoorK14A
namespace Go.Proofs.YteelnimchlgdmaaDoor
open Go.RowKit
set_option linter.unusedVariables false
set_option maxRecDepth 100000
set_option linter.unusedSimpArgs false

/-- Lines as cells. -/
def lnV (S : List Ln) : List Value := (ln3 S).map fun n => Value.int .i64 n
theorem lnV_len (S : List Ln) : (lnV S).length = S.length * 3 := by unfold lnV; rw [List.length_map, ln3_len]; omega
theorem lnV_snoc (S : List Ln) (l : Ln) : lnV (S ++ [l]) = lnV S ++ [.int .i64 l.f, .int .i64 l.t, .int .i64 l.c] := by unfold lnV; rw [ln3_snoc, List.map_append]; rfl
theorem ln3_at : ∀ (S : List Ln) (i : Nat) (h : i < S.length), (ln3 S)[i * 3]? = some S[i].f ∧ (ln3 S)[i * 3 + 1]? = some S[i].t ∧ (ln3 S)[i * 3 + 2]? = some S[i].c
  | [], i, h => by simp at h
  | a :: r, 0, h => ⟨rfl, rfl, rfl⟩
  | a :: r, i + 1, h => by
    have ih := ln3_at r i (by simpa using h)
    rw [ln3, show (i + 1) * 3 = i * 3 + 3 by omega]
    simpa using ih
theorem info_Line : (Tryd.prog.info? 41).map (fun i => (i.zero, i.size, i.bytes)) = some (some (.agg #[.int .i64 0, .int .i64 0, .int .i64 0]), 3, 24) := by kernel_rfl
/-- A grid under way: its box gb, which holds v0, and its lines in a row of their own. -/
structure GB (W5 w : World) (gb : Nat) (Z H lo hi : Int) (v0 v : Value) (S : List Ln) : Prop where
  box : w.heap[gb]? = some (.cells #[.int .i64 Z, .int .i64 H, v0, .int .i64 lo, .int .i64 hi] 24 (0, 0))
  own : w.ownsRow (gb + 1) 41 3 v S.length (lnV S)
  bel : Below W5.heap.size W5 w
  old : W5.heap.size ≤ gb
section
variable {W5 w w' : World} {gb : Nat} {Z H lo hi : Int} {v0 v : Value} {S : List Ln}
theorem GB.sz (h : GB W5 w gb Z H lo hi v0 v S) : gb + 1 ≤ w.heap.size := lt_of_block h.box
theorem GB.below (h : GB W5 w gb Z H lo hi v0 v S) (b : Below w.heap.size w w') : GB W5 w' gb Z H lo hi v0 v S :=
  ⟨(b.block gb (lt_of_block h.box)).trans h.box, own_below h.own b, chain2 h.bel b, h.old⟩
theorem GB.alloc (h : GB W5 w gb Z H lo hi v0 v S) (o : Obj) : GB W5 (w.alloc o) gb Z H lo hi v0 v S := h.below (ibel w o)
theorem GB.drew (h : GB W5 w gb Z H lo hi v0 v S) : GB W5 w.drew gb Z H lo hi v0 v S := h.below (Below.refl _ _).drew
theorem GB.push (h : GB W5 w gb Z H lo hi v0 v S) {v' : Value} {l : Ln} (ho : w'.ownsRow (gb + 1) 41 3 v' (S.length + 1) (lnV S ++ [.int .i64 l.f, .int .i64 l.t, .int .i64 l.c])) (hg : w.grownBy w' v.ownBlock) : GB W5 w' gb Z H lo hi v0 v' (S ++ [l]) := by
  have k := (Below.refl (gb + 1) w).grown hg h.sz (fun g hg => (h.own.lt g hg).1)
  refine ⟨(k.block gb (Nat.lt_succ_self _)).trans h.box, ?_, ?_, h.old⟩
  · rw [lnV_snoc, List.length_append]; exact ho
  · exact h.bel.trans (k.mono (Nat.le_succ_of_le h.old))
theorem GB.set (h : GB W5 w gb Z H lo hi v0 v S) (u : Value) : GB W5 (w.setCell ⟨gb, 2, none⟩ u) gb Z H lo hi u v S :=
  ⟨set_at (L := [.int .i64 Z, .int .i64 H, v0, .int .i64 lo, .int .i64 hi]) h.box, ownsRow_setCell_other h.own (a := ⟨gb, 2, none⟩) (fun e => absurd (h.own.lt gb e).1 (by omega)) u, h.bel.setCell (p := ⟨gb, 2, none⟩) h.old u, h.old⟩
end
theorem lns_own {w : World} {B : Nat} {v : Value} {S : List Ln} (h : w.ownsRow B 41 3 v S.length (lnV S)) : Lns w v S := by
  rcases h.2 with ⟨rfl, h0⟩ | ⟨g, cap, cur, rfl, _, hh, h1, h2, _⟩
  · exact ⟨none, 0, by rw [h0], by omega, Nat.zero_le _, Or.inl (List.eq_nil_of_length_eq_zero h0)⟩
  · refine ⟨_, cap, rfl, h1, h2, Or.inr ⟨g, 0, rfl, fun i hi => ?_⟩⟩
    obtain ⟨a0, a1, a2⟩ := ln3_at S i hi
    have q : ∀ j n, (ln3 S)[j]? = some n → w.cell? ⟨g, 0 + j, none⟩ = some (.int .i64 n) := fun j n e => by
      have := h.cells (g := g) rfl j (.int .i64 n) (by unfold lnV; rw [List.getElem?_map, e]; rfl)
      rw [add_off] at this
      exact this
    refine ⟨?_, ?_, ?_⟩
    · exact q _ _ a0
    · rw [Nat.add_assoc]; exact q _ _ a1
    · rw [Nat.add_assoc]; exact q _ _ a2
def lenV : Value → Nat
  | .slice _ n _ => n
  | _ => 0
theorem line_new (w : World) (l : Ln) : ∀ j u, ([.int .i64 l.f, .int .i64 l.t, .int .i64 l.c] : List Value)[j]? = some u → (w.alloc (Obj.cells #[.int .i64 l.f, .int .i64 l.t, .int .i64 l.c] 41)).cell? ((⟨w.heap.size, 0, none⟩ : Addr).add j) = some u := by
  intro j u hj
  rw [add_off, Nat.zero_add]
  exact cell_at (L := [.int .i64 l.f, .int .i64 l.t, .int .i64 l.c]) (inew w _) j u hj
theorem put5_box {w : World} {b : Nat} {t : TypeId} {a0 a1 a2 a3 a4 : Value} (x : w.heap[b]? = some (.cells #[a0, a1, a2, a3, a4] t (0, 0))) (u0 u1 u2 u3 u4 : Value) :
    (((((w.setCell ⟨b, 0, none⟩ u0).setCell ⟨b, 1, none⟩ u1).setCell ⟨b, 2, none⟩ u2).setCell ⟨b, 3, none⟩ u3).setCell ⟨b, 4, none⟩ u4).heap[b]? = some (.cells #[u0, u1, u2, u3, u4] t (0, 0)) := by
  have e0 := set_at (L := [a0, a1, a2, a3, a4]) (k := 0) (v := u0) x
  have e1 := set_at (L := [u0, a1, a2, a3, a4]) (k := 1) (v := u1) e0
  have e2 := set_at (L := [u0, u1, a2, a3, a4]) (k := 2) (v := u2) e1
  have e3 := set_at (L := [u0, u1, u2, a3, a4]) (k := 3) (v := u3) e2
  exact set_at (L := [u0, u1, u2, u3, a4]) (k := 4) (v := u4) e3
theorem put5_own {w : World} {B : Nat} {e : TypeId} {size : Nat} {v : Value} {n : Nat} {xs : List Value} (h : w.ownsRow B e size v n xs) (b : Nat) (hb : b < B) (u0 u1 u2 u3 u4 : Value) :
    (((((w.setCell ⟨b, 0, none⟩ u0).setCell ⟨b, 1, none⟩ u1).setCell ⟨b, 2, none⟩ u2).setCell ⟨b, 3, none⟩ u3).setCell ⟨b, 4, none⟩ u4).ownsRow B e size v n xs := by
  have step : ∀ {w : World}, w.ownsRow B e size v n xs → ∀ (j : Nat) (u : Value), (w.setCell ⟨b, j, none⟩ u).ownsRow B e size v n xs := fun h j u => ownsRow_setCell_other h (a := ⟨b, j, none⟩) (fun k => absurd (h.lt b k).1 (by omega)) u
  exact step (step (step (step (step h 0 u0) 1 u1) 2 u2) 3 u3) 4 u4
theorem own_fresh {w : World} {B size : Nat} {e : TypeId} {la : Option Addr} {n m c : Nat} {xs : List Value} (h : w.ownsRow B e size (.slice la n c) m xs) (b : Nat) (hb : b < B) : ∀ g off f, la = some ⟨g, off, f⟩ → b < g := by
  intro g off f e
  rcases h.2 with ⟨h1, _⟩ | ⟨g', cap, cur, h1, hg, _⟩
  · simp only [Value.slice.injEq] at h1
    rw [e] at h1
    simp at h1
  · simp only [Value.slice.injEq] at h1
    rw [e] at h1
    simp only [Option.some.injEq, Addr.mk.injEq] at h1
    omega
theorem cell_ne5 {w : World} {b c i j : Nat} (v : Value) (h : c ≠ b) : (w.setCell ⟨b, i, none⟩ v).cell? ⟨c, j, none⟩ = w.cell? ⟨c, j, none⟩ := by
  unfold World.cell?
  rw [Below.heap_setCell _ _ _ _ h]
theorem lns_put5 {w : World} {la : Option Addr} {lc : Nat} {S : List Ln} (h : Lns w (.slice la S.length lc) S) (b : Nat) (hf : ∀ g off f, la = some ⟨g, off, f⟩ → b < g) (u0 u1 u2 u3 u4 : Value) :
    Lns (((((w.setCell ⟨b, 0, none⟩ u0).setCell ⟨b, 1, none⟩ u1).setCell ⟨b, 2, none⟩ u2).setCell ⟨b, 3, none⟩ u3).setCell ⟨b, 4, none⟩ u4) (.slice la S.length lc) S := by
  obtain ⟨a, c, e, h1, h2, h3⟩ := h
  simp only [Value.slice.injEq] at e
  obtain ⟨rfl, -, rfl⟩ := e
  refine ⟨_, _, rfl, h1, h2, ?_⟩
  rcases h3 with h3 | ⟨g, off, e, h3⟩
  · exact Or.inl h3
  · refine Or.inr ⟨g, off, e, fun i hi => ?_⟩
    have hne : g ≠ b := by have := hf g off none e; omega
    obtain ⟨q0, q1, q2⟩ := h3 i hi
    have step : ∀ {X : World} {j : Nat} {v : Value}, X.cell? ⟨g, j, none⟩ = some v → ∀ (o : Nat) (u : Value), (X.setCell ⟨b, o, none⟩ u).cell? ⟨g, j, none⟩ = some v := fun h o u => by
      rw [cell_ne5 _ hne]; exact h
    exact ⟨step (step (step (step (step q0 0 u0) 1 u1) 2 u2) 3 u3) 4 u4, step (step (step (step (step q1 0 u0) 1 u1) 2 u2) 3 u3) 4 u4, step (step (step (step (step q2 0 u0) 1 u1) 2 u2) 3 u3) 4 u4⟩
theorem put5_below {B : Nat} {W w : World} (h : Below B W w) (b : Nat) (hb : B ≤ b) (u0 u1 u2 u3 u4 : Value) :
    Below B W (((((w.setCell ⟨b, 0, none⟩ u0).setCell ⟨b, 1, none⟩ u1).setCell ⟨b, 2, none⟩ u2).setCell ⟨b, 3, none⟩ u3).setCell ⟨b, 4, none⟩ u4) :=
  ((((h.setCell (p := ⟨b, 0, none⟩) hb u0).setCell (p := ⟨b, 1, none⟩) hb u1).setCell (p := ⟨b, 2, none⟩) hb u2).setCell (p := ⟨b, 3, none⟩) hb u3).setCell (p := ⟨b, 4, none⟩) hb u4
theorem Row1.drop {w : World} {b off n c : Nat} {L : List Value} (h : Row1 w (.slice (some ⟨b, off, none⟩) n c) L) (k : Nat) (hk : k ≤ n) : Row1 w (.slice (some ⟨b, off + k, none⟩) (n - k) (c - k)) (L.drop k) := by
  obtain ⟨a', c', e, h1, h2, h3⟩ := h
  simp only [Value.slice.injEq] at e
  obtain ⟨rfl, rfl, rfl⟩ := e
  refine ⟨_, _, by rw [List.length_drop], by rw [List.length_drop]; omega, by omega, ?_⟩
  rcases h3 with rfl | ⟨b', o', e, h3⟩
  · exact Or.inl (by simp)
  · simp only [Option.some.injEq, Addr.mk.injEq] at e
    obtain ⟨rfl, rfl, -⟩ := e
    refine Or.inr ⟨b, off + k, rfl, fun i hi => ?_⟩
    rw [List.length_drop] at hi
    rw [List.getElem_drop, Nat.add_assoc]
    exact h3 (k + i) (by omega)
set_option maxHeartbeats 1600000 in
theorem laid_any (w : World) (Z H lo hi : Int) (S : List Ln) (v : Value) (h : Ints w v ([Z, H, lo, hi] ++ ln3 S)) (hS : S.length ≤ 64) :
    Calls Tryd.prog 13 #[v] w fun e w' => ∃ la lc, e = .returned (.agg #[.int .i64 Z, .int .i64 H, .slice la S.length lc, .int .i64 lo, .int .i64 hi]) ∧ Lns w' (.slice la S.length lc) S ∧ (∀ g off f, la = some ⟨g, off, f⟩ → w.heap.size < g) ∧ Below w.heap.size w w' := by
  have HLEN := hid (show ([Z, H, lo, hi] ++ ln3 S).length = 4 + 3 * S.length by rw [List.length_append, ln3_len]; rfl)
  obtain ⟨sb, so, sc, rfl, g0, g1, c0⟩ := h.at 0 (by rw [HLEN.out]; omega)
  obtain ⟨_, _, _, e, -, -, c1⟩ := h.at 1 (by rw [HLEN.out]; omega)
  simp only [Value.slice.injEq, Option.some.injEq, Addr.mk.injEq] at e
  obtain ⟨⟨rfl, rfl, -⟩, -, -⟩ := e
  obtain ⟨_, _, _, e, -, -, c2⟩ := h.at 2 (by rw [HLEN.out]; omega)
  simp only [Value.slice.injEq, Option.some.injEq, Addr.mk.injEq] at e
  obtain ⟨⟨rfl, rfl, -⟩, -, -⟩ := e
  obtain ⟨_, _, _, e, -, -, c3⟩ := h.at 3 (by rw [HLEN.out]; omega)
  simp only [Value.slice.injEq, Option.some.injEq, Addr.mk.injEq] at e
  obtain ⟨⟨rfl, rfl, -⟩, -, -⟩ := e
  rw [Nat.add_zero] at c0
  have HD := hid (Row1.drop h 4 (by rw [HLEN.out]; omega))
  rw [HLEN.out] at HD g0 ⊢
  have HD2 : Hid (Ints w (.slice (some ⟨sb, so + 4, none⟩) (3 * S.length) (sc - 4)) (ln3 (S.drop 0))) := hid (by
    have := HD.out
    rw [show 4 + 3 * S.length - 4 = 3 * S.length by omega] at this
    exact this)
  clear HD
  unfold maxLen at g1
  have b1 := ibel w (Obj.cells #[.int .i64 0, .int .i64 0, .slice none 0 0, .int .i64 0, .int .i64 0] 24)
  have HC4 := hid (fun (Y : World) (b : Below (w.alloc (Obj.cells #[.int .i64 0, .int .i64 0, .slice none 0 0, .int .i64 0, .int .i64 0] 24)).heap.size (w.alloc (Obj.cells #[.int .i64 0, .int .i64 0, .slice none 0 0, .int .i64 0, .int .i64 0] 24)) Y) => (⟨ikc (chain2 b1 b) c0, ikc (chain2 b1 b) c1, ikc (chain2 b1 b) c2, ikc (chain2 b1 b) c3⟩ : Y.cell? ⟨sb, so, none⟩ = some (.int .i64 Z) ∧ Y.cell? ⟨sb, so + 1, none⟩ = some (.int .i64 H) ∧ Y.cell? ⟨sb, so + 2, none⟩ = some (.int .i64 lo) ∧ Y.cell? ⟨sb, so + 3, none⟩ = some (.int .i64 hi)))
  obtain ⟨i0, hi0, hz0, hz1, hz2⟩ := info_parts info_Line
  have hz5 : (0 : Int) < 4 + 3 * (S.length : Int) := by omega
  have hz6 : (1 : Int) < 4 + 3 * (S.length : Int) := by omega
  have hz7 : (2 : Int) < 4 + 3 * (S.length : Int) := by omega
  have hz8 : (3 : Int) < 4 + 3 * (S.length : Int) := by omega
  clear c0 c1 c2 c3
  go_enter Tryd.func13, Tryd.ntmps13
  go_wp2_with fail
  refine wp_region_noPanic ?_
  refine region_split (S := fun Y => Y.cell? ⟨sb, so, none⟩ = some (.int .i64 Z) ∧ Y.cell? ⟨sb, so + 1, none⟩ = some (.int .i64 H) ∧ Y.cell? ⟨sb, so + 2, none⟩ = some (.int .i64 lo) ∧ Y.cell? ⟨sb, so + 3, none⟩ = some (.int .i64 hi)) (late := fun j => Nat.ble 14 j) (k := 6) (m := 1) (last := #[true, true, true, true, true, true, true, true, true, true, true, true, true, true, false]) (mask := #[false, false, false, false, false, false, false, false, false, false, false, false, false, false, true]) (by kernel_rfl) (by kernel_rfl) (by kernel_rfl) (by kernel_rfl) 14 (by kernel_rfl) (HC4.out _ (Below.refl _ _).drew) (fun hHeld => ?_)
  refine wpAnyH_take (i := 0) (v := ?_) rfl (by kernel_rfl) (by kernel_rfl) (by kernel_rfl) (fun _ _ _ h => h) (Or.inl ⟨by rfl, ?_⟩) (by assumption) ?_
  rotate_left
  · intro w hSw
    (try dsimp only at hSw)
    go_simp
    (try with_reducible rfl)
  (try simp only [List.getElem_toArray, List.getElem_cons_zero, List.getElem_cons_succ, Act.put, List.setIfInBounds_toArray, List.set_cons_zero, List.set_cons_succ])
  refine wpAnyH_take (i := 1) (v := ?_) rfl (by kernel_rfl) (by kernel_rfl) (by kernel_rfl) (fun _ _ _ h => h) (Or.inl ⟨by rfl, ?_⟩) (by assumption) ?_
  rotate_left
  · intro w hSw
    (try dsimp only at hSw)
    go_simp
    (try with_reducible rfl)
  (try simp only [List.getElem_toArray, List.getElem_cons_zero, List.getElem_cons_succ, Act.put, List.setIfInBounds_toArray, List.set_cons_zero, List.set_cons_succ])
  refine wpAnyH_take (i := 2) (v := ?_) rfl (by kernel_rfl) (by kernel_rfl) (by kernel_rfl) (fun _ _ _ h => h) (Or.inl ⟨by rfl, ?_⟩) (by assumption) ?_
  rotate_left
  · intro w hSw
    (try dsimp only at hSw)
    go_simp
    (try with_reducible rfl)
  (try simp only [List.getElem_toArray, List.getElem_cons_zero, List.getElem_cons_succ, Act.put, List.setIfInBounds_toArray, List.set_cons_zero, List.set_cons_succ])
  refine wpAnyH_take (i := 3) (v := ?_) rfl (by kernel_rfl) (by kernel_rfl) (by kernel_rfl) (fun _ _ _ h => h) (Or.inl ⟨by rfl, ?_⟩) (by assumption) ?_
  rotate_left
  · intro w hSw
    (try dsimp only at hSw)
    go_simp
    (try with_reducible rfl)
  (try simp only [List.getElem_toArray, List.getElem_cons_zero, List.getElem_cons_succ, Act.put, List.setIfInBounds_toArray, List.set_cons_zero, List.set_cons_succ])
  refine wpAnyH_take (i := 4) (v := ?_) rfl (by kernel_rfl) (by kernel_rfl) (by kernel_rfl) (fun _ _ _ h => h) (Or.inl ⟨by rfl, ?_⟩) (by assumption) ?_
  rotate_left
  · intro w hSw
    (try dsimp only at hSw)
    go_simp
    (try with_reducible rfl)
  (try simp only [List.getElem_toArray, List.getElem_cons_zero, List.getElem_cons_succ, Act.put, List.setIfInBounds_toArray, List.set_cons_zero, List.set_cons_succ])
  refine wpAnyH_take (i := 5) (v := ?_) rfl (by kernel_rfl) (by kernel_rfl) (by kernel_rfl) (fun _ _ _ h => h) (Or.inl ⟨by rfl, ?_⟩) (by assumption) ?_
  rotate_left
  · intro w hSw
    (try dsimp only at hSw)
    go_simp
    (try with_reducible rfl)
  (try simp only [List.getElem_toArray, List.getElem_cons_zero, List.getElem_cons_succ, Act.put, List.setIfInBounds_toArray, List.set_cons_zero, List.set_cons_succ])
  refine wpAnyH_take (i := 6) (v := ?_) rfl (by kernel_rfl) (by kernel_rfl) (by kernel_rfl) (fun _ _ _ h => h) (Or.inl ⟨by rfl, ?_⟩) (by assumption) ?_
  rotate_left
  · intro w hSw
    (try dsimp only at hSw)
    go_simp
    (try with_reducible rfl)
  (try simp only [List.getElem_toArray, List.getElem_cons_zero, List.getElem_cons_succ, Act.put, List.setIfInBounds_toArray, List.set_cons_zero, List.set_cons_succ])
  refine wpAnyH_take (i := 7) (v := ?_) rfl (by kernel_rfl) (by kernel_rfl) (by kernel_rfl) (fun _ _ _ h => h) (Or.inl ⟨by rfl, ?_⟩) (by assumption) ?_
  rotate_left
  · intro w hSw
    (try dsimp only at hSw)
    go_simp
    (try with_reducible rfl)
  (try simp only [List.getElem_toArray, List.getElem_cons_zero, List.getElem_cons_succ, Act.put, List.setIfInBounds_toArray, List.set_cons_zero, List.set_cons_succ])
  refine wpAnyH_take (i := 8) (v := ?_) rfl (by kernel_rfl) (by kernel_rfl) (by kernel_rfl) (fun _ _ _ h => h) (Or.inl ⟨by rfl, ?_⟩) (by assumption) ?_
  rotate_left
  · intro w hSw
    (try dsimp only at hSw)
    go_simp
    (try with_reducible rfl)
  (try simp only [List.getElem_toArray, List.getElem_cons_zero, List.getElem_cons_succ, Act.put, List.setIfInBounds_toArray, List.set_cons_zero, List.set_cons_succ])
  refine wpAnyH_take (i := 9) (v := ?_) rfl (by kernel_rfl) (by kernel_rfl) (by kernel_rfl) (fun _ _ _ h => h) (Or.inl ⟨by rfl, ?_⟩) (by assumption) ?_
  rotate_left
  · intro w hSw
    (try dsimp only at hSw)
    go_simp
    (try with_reducible rfl)
  (try simp only [List.getElem_toArray, List.getElem_cons_zero, List.getElem_cons_succ, Act.put, List.setIfInBounds_toArray, List.set_cons_zero, List.set_cons_succ])
  refine wpAnyH_take (i := 10) (v := ?_) rfl (by kernel_rfl) (by kernel_rfl) (by kernel_rfl) (fun _ _ _ h => h) (Or.inl ⟨by rfl, ?_⟩) (by assumption) ?_
  rotate_left
  · intro w hSw
    (try dsimp only at hSw)
    go_simp
    (try with_reducible rfl)
  (try simp only [List.getElem_toArray, List.getElem_cons_zero, List.getElem_cons_succ, Act.put, List.setIfInBounds_toArray, List.set_cons_zero, List.set_cons_succ])
  refine wpAnyH_take (i := 11) (v := ?_) rfl (by kernel_rfl) (by kernel_rfl) (by kernel_rfl) (fun _ _ _ h => h) (Or.inl ⟨by rfl, ?_⟩) (by assumption) ?_
  rotate_left
  · intro w hSw
    (try dsimp only at hSw)
    go_simp
    (try with_reducible rfl)
  (try simp only [List.getElem_toArray, List.getElem_cons_zero, List.getElem_cons_succ, Act.put, List.setIfInBounds_toArray, List.set_cons_zero, List.set_cons_succ])
  refine wpAnyH_take (i := 12) (v := ?_) rfl (by kernel_rfl) (by kernel_rfl) (by kernel_rfl) (fun _ _ _ h => h) (Or.inl ⟨by rfl, ?_⟩) (by assumption) ?_
  rotate_left
  · intro w hSw
    (try dsimp only at hSw)
    go_simp
    (try with_reducible rfl)
  (try simp only [List.getElem_toArray, List.getElem_cons_zero, List.getElem_cons_succ, Act.put, List.setIfInBounds_toArray, List.set_cons_zero, List.set_cons_succ])
  refine wpAnyH_ready (rs := [13]) (by kernel_rfl) (by simp) ?_
  refine AllReadyH.cons (o := _) rfl (fun Kc hKc => ?_) AllReadyH.nil
  go_simp
  refine hKc.out _ _ (HC4.out _ (below_alloc' (Below.refl _ _).drew (Nat.le_refl _) _)) (fun hHeld => ?_)
  clear hKc Kc
  (try simp only [List.getElem_toArray, List.getElem_cons_zero, List.getElem_cons_succ, Act.put, List.setIfInBounds_toArray, List.set_cons_zero, List.set_cons_succ])
  refine wpAnyH_done (by kernel_rfl) ?_ _
  intro r
  refine wpAny_ready (rs := [14]) (by kernel_rfl) (by simp) ?_
  refine AllReady.cons (o := _) rfl (fun Kc hKc => ?_) AllReady.nil
  go_simp
  refine hKc _ _ ?_
  clear hKc Kc
  (try simp only [List.getElem_toArray, List.getElem_cons_zero, List.getElem_cons_succ, Act.put, List.setIfInBounds_toArray, List.set_cons_zero, List.set_cons_succ])
  refine wpAny_done (by kernel_rfl) ?_ _
  refine NoPanic.normal ?_

  have x5 := inew w (Obj.cells #[.int .i64 0, .int .i64 0, .slice none 0 0, .int .i64 0, .int .i64 0] 24)
  have x6 := inew (w.alloc (Obj.cells #[.int .i64 0, .int .i64 0, .slice none 0 0, .int .i64 0, .int .i64 0] 24)) (Obj.cells #[.int .i64 Z, .int .i64 H, .slice none 0 0, .int .i64 lo, .int .i64 hi] 24)
  have s5 : (w.alloc (Obj.cells #[.int .i64 0, .int .i64 0, .slice none 0 0, .int .i64 0, .int .i64 0] 24)).heap.size = w.heap.size + 1 := World.size_alloc _ _
  have HG0 : Hid (GB (w.alloc (Obj.cells #[.int .i64 0, .int .i64 0, .slice none 0 0, .int .i64 0, .int .i64 0] 24)) (((w.alloc (Obj.cells #[.int .i64 0, .int .i64 0, .slice none 0 0, .int .i64 0, .int .i64 0] 24)).alloc (Obj.cells #[.int .i64 Z, .int .i64 H, .slice none 0 0, .int .i64 lo, .int .i64 hi] 24)).drew) (w.heap.size + 1) Z H lo hi (.slice none 0 0) (.slice none 0 0) []) :=
    hid (GB.drew ⟨by rw [← s5]; exact x6, World.ownsRow_nil _ _ _ _, ibel _ _, Nat.le_of_eq s5⟩)
  have HR0 := hid x5
  have HB0 := hid b1
  have HS5 := hid s5
  have HD3 := hid (HD2.out.below b1)
  clear HC4 x5 x6 s5 b1 HD2 h HLEN
  generalize ((w.alloc (Obj.cells #[.int .i64 0, .int .i64 0, .slice none 0 0, .int .i64 0, .int .i64 0] 24)).alloc (Obj.cells #[.int .i64 Z, .int .i64 H, .slice none 0 0, .int .i64 lo, .int .i64 hi] 24)).drew = W6 at *
  generalize w.alloc (Obj.cells #[.int .i64 0, .int .i64 0, .slice none 0 0, .int .i64 0, .int .i64 0] 24) = W5 at *
  go_wp2_with fail
  · have hS0 : S.length = 0 := by omega
    have HI : Hid (Ints W5 (.slice (some ⟨sb, so, none⟩) (3 * S.length) 0) (ln3 (S.drop 0))) := hid (by
      have e : S = [] := List.eq_nil_of_length_eq_zero hS0
      rw [e]
      exact ⟨_, _, rfl, Nat.zero_le _, Nat.zero_le _, Or.inl rfl⟩)
    clear hS0
    clear HD3
    go_loopw [4] (fun lv wr => ∃ k m : Nat, k + m = S.length ∧ ∃ ra rc, lv = .slice ra (3 * m) rc ∧ Hid (Ints W5 lv (ln3 (S.drop k))) ∧ ∃ vv, Hid (GB W5 wr (w.heap.size + 1) Z H lo hi vv vv (S.take k))) (fun lv _ => lenV lv)
    case atStart => exact ⟨0, S.length, by omega, _, _, rfl, HI, _, HG0⟩
    case round =>
      clear HI HG0
      obtain ⟨k, m, hkm, ra, rc, rfl, HI, vv, HG⟩ := hrel
      have HKM := hid hkm
      by_cases hm : m = 0
      · subst hm
        obtain rfl : k = S.length := by omega
        clear hkm
        rw [List.take_of_length_le (Nat.le_refl _)] at HG
        obtain ⟨va, vc, rfl⟩ := own_slice HG.out.own
        have xg := HG.out.box
        have g0 := ibx xg 0 (.int .i64 Z) rfl
        have g1 := ibx xg 1 (.int .i64 H) rfl
        have g2 := ibx xg 2 (.slice va S.length vc) rfl
        have g3 := ibx xg 3 (.int .i64 lo) rfl
        have g4 := ibx xg 4 (.int .i64 hi) rfl
        have xr := (HG.out.bel.block w.heap.size (by rw [HS5.out]; exact Nat.lt_succ_self _)).trans HR0.out
        have r0 := ibx xr 0 (.int .i64 0) rfl
        have r1 := ibx xr 1 (.int .i64 0) rfl
        have r2 := ibx xr 2 (.slice none 0 0) rfl
        have r3 := ibx xr 3 (.int .i64 0) rfl
        have r4 := ibx xr 4 (.int .i64 0) rfl
        have f0 := free_at (L := [.int .i64 0, .int .i64 0, .slice none 0 0, .int .i64 0, .int .i64 0]) xr 0
        have f1 := free_at (L := [.int .i64 0, .int .i64 0, .slice none 0 0, .int .i64 0, .int .i64 0]) xr 1
        have f2 := free_at (L := [.int .i64 0, .int .i64 0, .slice none 0 0, .int .i64 0, .int .i64 0]) xr 2
        have f3 := free_at (L := [.int .i64 0, .int .i64 0, .slice none 0 0, .int .i64 0, .int .i64 0]) xr 3
        have f4 := free_at (L := [.int .i64 0, .int .i64 0, .slice none 0 0, .int .i64 0, .int .i64 0]) xr 4
        have HX := hid (put5_box xr (.int .i64 Z) (.int .i64 H) (.slice va S.length vc) (.int .i64 lo) (.int .i64 hi))
        have HFR := hid (own_fresh HG.out.own w.heap.size (Nat.lt_of_lt_of_le (Nat.lt_succ_self _) (Nat.le_succ _)))
        have HL := hid (lns_own (put5_own HG.out.own w.heap.size (Nat.lt_of_lt_of_le (Nat.lt_succ_self _) (Nat.le_succ _)) (.int .i64 Z) (.int .i64 H) (.slice va S.length vc) (.int .i64 lo) (.int .i64 hi)))
        have HW := hid (put5_below (HB0.out.trans (HG.out.bel.mono HB0.out.size)) w.heap.size (Nat.le_refl _) (.int .i64 Z) (.int .i64 H) (.slice va S.length vc) (.int .i64 lo) (.int .i64 hi))
        have y0 := ibx HX.out 0 _ rfl
        have y1 := ibx HX.out 1 _ rfl
        have y2 := ibx HX.out 2 _ rfl
        have y3 := ibx HX.out 3 _ rfl
        have y4 := ibx HX.out 4 _ rfl
        have HO := hid (And.intro y0 (And.intro y1 (And.intro y2 (And.intro y3 y4))))
        clear y0 y1 y2 y3 y4 xr xg HG HX
        go_wp2_with fail
        exact bodyPost_ret (v := .agg #[.int .i64 Z, .int .i64 H, .slice va S.length vc, .int .i64 lo, .int .i64 hi]) (by simp [results, Tryd.results13, go_sem, HO.out.1, HO.out.2.1, HO.out.2.2.1, HO.out.2.2.2.1, HO.out.2.2.2.2]) rfl ⟨_, _, rfl, HL.out, HFR.out, HW.out⟩
      · exfalso; omega

  · have HI := HD3
    clear HD3
    go_loopw [4] (fun lv wr => ∃ k m : Nat, k + m = S.length ∧ ∃ ra rc, lv = .slice ra (3 * m) rc ∧ Hid (Ints W5 lv (ln3 (S.drop k))) ∧ ∃ vv, Hid (GB W5 wr (w.heap.size + 1) Z H lo hi vv vv (S.take k))) (fun lv _ => lenV lv)
    case atStart => exact ⟨0, S.length, by omega, _, _, rfl, HI, _, HG0⟩
    case round =>
      clear HI HG0
      obtain ⟨k, m, hkm, ra, rc, rfl, HI, vv, HG⟩ := hrel
      have HKM := hid hkm
      by_cases hm : m = 0
      · subst hm
        obtain rfl : k = S.length := by omega
        clear hkm
        rw [List.take_of_length_le (Nat.le_refl _)] at HG
        obtain ⟨va, vc, rfl⟩ := own_slice HG.out.own
        have xg := HG.out.box
        have g0 := ibx xg 0 (.int .i64 Z) rfl
        have g1 := ibx xg 1 (.int .i64 H) rfl
        have g2 := ibx xg 2 (.slice va S.length vc) rfl
        have g3 := ibx xg 3 (.int .i64 lo) rfl
        have g4 := ibx xg 4 (.int .i64 hi) rfl
        have xr := (HG.out.bel.block w.heap.size (by rw [HS5.out]; exact Nat.lt_succ_self _)).trans HR0.out
        have r0 := ibx xr 0 (.int .i64 0) rfl
        have r1 := ibx xr 1 (.int .i64 0) rfl
        have r2 := ibx xr 2 (.slice none 0 0) rfl
        have r3 := ibx xr 3 (.int .i64 0) rfl
        have r4 := ibx xr 4 (.int .i64 0) rfl
        have f0 := free_at (L := [.int .i64 0, .int .i64 0, .slice none 0 0, .int .i64 0, .int .i64 0]) xr 0
        have f1 := free_at (L := [.int .i64 0, .int .i64 0, .slice none 0 0, .int .i64 0, .int .i64 0]) xr 1
        have f2 := free_at (L := [.int .i64 0, .int .i64 0, .slice none 0 0, .int .i64 0, .int .i64 0]) xr 2
        have f3 := free_at (L := [.int .i64 0, .int .i64 0, .slice none 0 0, .int .i64 0, .int .i64 0]) xr 3
        have f4 := free_at (L := [.int .i64 0, .int .i64 0, .slice none 0 0, .int .i64 0, .int .i64 0]) xr 4
        have HX := hid (put5_box xr (.int .i64 Z) (.int .i64 H) (.slice va S.length vc) (.int .i64 lo) (.int .i64 hi))
        have HFR := hid (own_fresh HG.out.own w.heap.size (Nat.lt_of_lt_of_le (Nat.lt_succ_self _) (Nat.le_succ _)))
        have HL := hid (lns_own (put5_own HG.out.own w.heap.size (Nat.lt_of_lt_of_le (Nat.lt_succ_self _) (Nat.le_succ _)) (.int .i64 Z) (.int .i64 H) (.slice va S.length vc) (.int .i64 lo) (.int .i64 hi)))
        have HW := hid (put5_below (HB0.out.trans (HG.out.bel.mono HB0.out.size)) w.heap.size (Nat.le_refl _) (.int .i64 Z) (.int .i64 H) (.slice va S.length vc) (.int .i64 lo) (.int .i64 hi))
        have y0 := ibx HX.out 0 _ rfl
        have y1 := ibx HX.out 1 _ rfl
        have y2 := ibx HX.out 2 _ rfl
        have y3 := ibx HX.out 3 _ rfl
        have y4 := ibx HX.out 4 _ rfl
        have HO := hid (And.intro y0 (And.intro y1 (And.intro y2 (And.intro y3 y4))))
        clear y0 y1 y2 y3 y4 xr xg HG HX
        go_wp2_with fail
        exact bodyPost_ret (v := .agg #[.int .i64 Z, .int .i64 H, .slice va S.length vc, .int .i64 lo, .int .i64 hi]) (by simp [results, Tryd.results13, go_sem, HO.out.1, HO.out.2.1, HO.out.2.2.1, HO.out.2.2.2.1, HO.out.2.2.2.2]) rfl ⟨_, _, rfl, HL.out, HFR.out, HW.out⟩
      · obtain ⟨m, rfl⟩ : ∃ q, m = q + 1 := ⟨m - 1, by omega⟩
        have hlt : k < S.length := by omega
        have HT := hid (List.take_succ_eq_append_getElem hlt)
        have HDR := hid (List.drop_eq_getElem_cons hlt)
        obtain ⟨l, HL⟩ : ∃ l, Hid (S[k] = l) := ⟨_, hid rfl⟩
        rw [HL.out] at HT HDR
        rw [HDR.out] at HI
        have HI2 : Hid (Ints W5 (.slice ra (3 * (m + 1)) rc) (l.f :: l.t :: l.c :: ln3 (S.drop (k + 1)))) := HI
        have HTL := hid (show (S.take k).length ≤ 64 by rw [List.length_take]; omega)
        obtain ⟨rb, ro, rc', e, g2, g3, c0⟩ := HI2.out.at 0 (by simp)
        obtain ⟨_, _, _, e1, -, -, c1⟩ := HI2.out.at 1 (by simp)
        obtain ⟨_, _, _, e2, -, -, c2⟩ := HI2.out.at 2 (by simp)
        have hlen : 3 * (m + 1) = (l.f :: l.t :: l.c :: ln3 (S.drop (k + 1))).length := by
          simp only [Value.slice.injEq] at e
          exact e.2.1
        rw [e] at e1 e2
        simp only [Value.slice.injEq, Option.some.injEq, Addr.mk.injEq] at e1 e2
        obtain ⟨⟨rfl, rfl, -⟩, -, -⟩ := e1
        obtain ⟨⟨rfl, rfl, -⟩, -, -⟩ := e2
        simp only [Value.slice.injEq] at e
        obtain ⟨rfl, -, rfl⟩ := e
        rw [Nat.add_zero] at c0
        rw [← hlen] at g2
        unfold maxLen at g3
        have hrest : (ln3 (S.drop (k + 1))).length = 3 * m := by simp only [List.length_cons] at hlen; omega
        have HDN := hid (Row1.drop HI2.out 3 (by omega))
        have HRL := hid hrest
        obtain ⟨nk, HNK⟩ : ∃ n, Hid ((S.take k).length = n) := ⟨_, hid rfl⟩
        rw [HNK.out] at HTL
        have HIN : Hid (Ints W5 (Value.slice (if rc = 3 then some ⟨rb, ro, none⟩ else some ⟨rb, ro + 3, none⟩) (3 * (m + 1) - 3) (rc - 3)) (ln3 (S.drop (k + 1)))) := hid (by
          by_cases hq : rc = 3
          · rw [if_pos hq]
            have e : ln3 (S.drop (k + 1)) = [] := List.eq_nil_of_length_eq_zero (by rw [HRL.out]; omega)
            rw [e, show 3 * (m + 1) - 3 = 0 by omega, hq]
            exact ⟨_, _, rfl, Nat.zero_le _, Nat.zero_le _, Or.inl rfl⟩
          · rw [if_neg hq]
            exact HDN.out)
        have HC := hid (fun (Y : World) (v : Value) (X : List Ln) (_ : True) (hp : GB W5 Y (w.heap.size + 1) Z H lo hi vv v X) => (⟨ibx hp.box 2 vv rfl, ikc hp.bel c0, ikc hp.bel c1, ikc hp.bel c2⟩ : Y.cell? ⟨w.heap.size + 1, 2, none⟩ = some vv ∧ Y.cell? ⟨rb, ro, none⟩ = some (.int .i64 l.f) ∧ Y.cell? ⟨rb, ro + 1, none⟩ = some (.int .i64 l.t) ∧ Y.cell? ⟨rb, ro + 2, none⟩ = some (.int .i64 l.c)))
        have hP := HG.out.drew
        have q0 : (0 : Int) < 3 * ((m : Int) + 1) := by omega
        have q1 : (1 : Int) < 3 * ((m : Int) + 1) := by omega
        have q2 : (2 : Int) < 3 * ((m : Int) + 1) := by omega
        clear HG HI HI2 c0 c1 c2 hlen hrest hkm HDR hm
        go_wp2_with fail
        refine wp_region_noPanic ?_
        refine region_split (S := fun Y => Y.cell? ⟨w.heap.size + 1, 2, none⟩ = some vv ∧ Y.cell? ⟨rb, ro, none⟩ = some (.int .i64 l.f) ∧ Y.cell? ⟨rb, ro + 1, none⟩ = some (.int .i64 l.t) ∧ Y.cell? ⟨rb, ro + 2, none⟩ = some (.int .i64 l.c)) (late := fun j => Nat.ble 15 j) (k := 6) (m := 1) (last := #[true, true, true, true, true, true, true, true, true, true, true, true, true, true, true, false]) (mask := #[false, false, false, false, false, false, false, false, false, false, false, false, false, false, false, true]) (by kernel_rfl) (by kernel_rfl) (by kernel_rfl) (by kernel_rfl) 15 (by kernel_rfl) (HC.out _ _ _ trivial hP) (fun hHeld => ?_)
        generalize wr.drew = Y0 at *
        refine wpAnyH_take (i := 0) (v := ?_) rfl (by kernel_rfl) (by kernel_rfl) (by kernel_rfl) (fun _ _ _ h => h) (Or.inl ⟨by rfl, ?_⟩) (by assumption) ?_
        rotate_left
        · intro w hSw
          (try dsimp only at hSw)
          go_simp
          (try with_reducible rfl)
        (try simp only [List.getElem_toArray, List.getElem_cons_zero, List.getElem_cons_succ, Act.put, List.setIfInBounds_toArray, List.set_cons_zero, List.set_cons_succ])
        refine wpAnyH_take (i := 1) (v := ?_) rfl (by kernel_rfl) (by kernel_rfl) (by kernel_rfl) (fun _ _ _ h => h) (Or.inl ⟨by rfl, ?_⟩) (by assumption) ?_
        rotate_left
        · intro w hSw
          (try dsimp only at hSw)
          go_simp
          (try with_reducible rfl)
        (try simp only [List.getElem_toArray, List.getElem_cons_zero, List.getElem_cons_succ, Act.put, List.setIfInBounds_toArray, List.set_cons_zero, List.set_cons_succ])
        refine wpAnyH_take (i := 2) (v := ?_) rfl (by kernel_rfl) (by kernel_rfl) (by kernel_rfl) (fun _ _ _ h => h) (Or.inl ⟨by rfl, ?_⟩) (by assumption) ?_
        rotate_left
        · intro w hSw
          (try dsimp only at hSw)
          go_simp
          (try with_reducible rfl)
        (try simp only [List.getElem_toArray, List.getElem_cons_zero, List.getElem_cons_succ, Act.put, List.setIfInBounds_toArray, List.set_cons_zero, List.set_cons_succ])
        refine wpAnyH_take (i := 3) (v := ?_) rfl (by kernel_rfl) (by kernel_rfl) (by kernel_rfl) (fun _ _ _ h => h) (Or.inl ⟨by rfl, ?_⟩) (by assumption) ?_
        rotate_left
        · intro w hSw
          (try dsimp only at hSw)
          go_simp
          (try with_reducible rfl)
        (try simp only [List.getElem_toArray, List.getElem_cons_zero, List.getElem_cons_succ, Act.put, List.setIfInBounds_toArray, List.set_cons_zero, List.set_cons_succ])
        refine wpAnyH_take (i := 4) (v := ?_) rfl (by kernel_rfl) (by kernel_rfl) (by kernel_rfl) (fun _ _ _ h => h) (Or.inl ⟨by rfl, ?_⟩) (by assumption) ?_
        rotate_left
        · intro w hSw
          (try dsimp only at hSw)
          go_simp
          (try with_reducible rfl)
        (try simp only [List.getElem_toArray, List.getElem_cons_zero, List.getElem_cons_succ, Act.put, List.setIfInBounds_toArray, List.set_cons_zero, List.set_cons_succ])
        refine wpAnyH_take (i := 5) (v := ?_) rfl (by kernel_rfl) (by kernel_rfl) (by kernel_rfl) (fun _ _ _ h => h) (Or.inl ⟨by rfl, ?_⟩) (by assumption) ?_
        rotate_left
        · intro w hSw
          (try dsimp only at hSw)
          go_simp
          (try with_reducible rfl)
        (try simp only [List.getElem_toArray, List.getElem_cons_zero, List.getElem_cons_succ, Act.put, List.setIfInBounds_toArray, List.set_cons_zero, List.set_cons_succ])
        refine wpAnyH_take (i := 6) (v := ?_) rfl (by kernel_rfl) (by kernel_rfl) (by kernel_rfl) (fun _ _ _ h => h) (Or.inl ⟨by rfl, ?_⟩) (by assumption) ?_
        rotate_left
        · intro w hSw
          (try dsimp only at hSw)
          go_simp
          (try with_reducible rfl)
        (try simp only [List.getElem_toArray, List.getElem_cons_zero, List.getElem_cons_succ, Act.put, List.setIfInBounds_toArray, List.set_cons_zero, List.set_cons_succ])
        refine wpAnyH_take (i := 7) (v := ?_) rfl (by kernel_rfl) (by kernel_rfl) (by kernel_rfl) (fun _ _ _ h => h) (Or.inl ⟨by rfl, ?_⟩) (by assumption) ?_
        rotate_left
        · intro w hSw
          (try dsimp only at hSw)
          go_simp
          (try with_reducible rfl)
        (try simp only [List.getElem_toArray, List.getElem_cons_zero, List.getElem_cons_succ, Act.put, List.setIfInBounds_toArray, List.set_cons_zero, List.set_cons_succ])
        refine wpAnyH_take (i := 8) (v := ?_) rfl (by kernel_rfl) (by kernel_rfl) (by kernel_rfl) (fun _ _ _ h => h) (Or.inl ⟨by rfl, ?_⟩) (by assumption) ?_
        rotate_left
        · intro w hSw
          (try dsimp only at hSw)
          go_simp
          (try with_reducible rfl)
        (try simp only [List.getElem_toArray, List.getElem_cons_zero, List.getElem_cons_succ, Act.put, List.setIfInBounds_toArray, List.set_cons_zero, List.set_cons_succ])
        refine wpAnyH_take (i := 9) (v := ?_) rfl (by kernel_rfl) (by kernel_rfl) (by kernel_rfl) (fun _ _ _ h => h) (Or.inl ⟨by rfl, ?_⟩) (by assumption) ?_
        rotate_left
        · intro w hSw
          (try dsimp only at hSw)
          go_simp
          (try with_reducible rfl)
        (try simp only [List.getElem_toArray, List.getElem_cons_zero, List.getElem_cons_succ, Act.put, List.setIfInBounds_toArray, List.set_cons_zero, List.set_cons_succ])
        refine wpAnyH_take (i := 10) (v := ?_) rfl (by kernel_rfl) (by kernel_rfl) (by kernel_rfl) (fun _ _ _ h => h) (Or.inl ⟨by rfl, ?_⟩) (by assumption) ?_
        rotate_left
        · intro w hSw
          (try dsimp only at hSw)
          go_simp
          (try with_reducible rfl)
        (try simp only [List.getElem_toArray, List.getElem_cons_zero, List.getElem_cons_succ, Act.put, List.setIfInBounds_toArray, List.set_cons_zero, List.set_cons_succ])
        refine wpAnyH_take (i := 11) (v := ?_) rfl (by kernel_rfl) (by kernel_rfl) (by kernel_rfl) (fun _ _ _ h => h) (Or.inl ⟨by rfl, ?_⟩) (by assumption) ?_
        rotate_left
        · intro w hSw
          (try dsimp only at hSw)
          go_simp
          (try with_reducible rfl)
        (try simp only [List.getElem_toArray, List.getElem_cons_zero, List.getElem_cons_succ, Act.put, List.setIfInBounds_toArray, List.set_cons_zero, List.set_cons_succ])
        refine wpAnyH_ready (rs := [12]) (by kernel_rfl) (by simp) ?_
        refine AllReadyH.cons (o := _) rfl (fun Kc hKc => ?_) AllReadyH.nil
        go_simp
        refine hKc.out _ _ (HC.out _ _ _ trivial (hP.alloc _)) (fun hHeld => ?_)
        clear hKc Kc
        (try simp only [List.getElem_toArray, List.getElem_cons_zero, List.getElem_cons_succ, Act.put, List.setIfInBounds_toArray, List.set_cons_zero, List.set_cons_succ])
        have hP1 := hP.alloc (Obj.cells #[.int .i64 l.f, .int .i64 l.t, .int .i64 l.c] 41)
        have p1 := line_new Y0 l
        clear hP
        generalize Y0.alloc (Obj.cells #[.int .i64 l.f, .int .i64 l.t, .int .i64 l.c] 41) = Y1 at *
        generalize Y0.heap.size = gg at *
        refine wpAnyH_ready (rs := [13]) (by kernel_rfl) (by simp) ?_
        refine AllReadyH.cons (o := _) rfl (fun Kc hKc => ?_) AllReadyH.nil
        refine step_append_at rfl _ _ 22 rfl (w.heap.size + 1 + 1) 41 i0 (.agg #[.int .i64 0, .int .i64 0, .int .i64 0]) 3 24 Tryd.underlying22 hi0 hz0 hz1 hz2 rfl (by decide) vv nk (lnV (S.take k)) rfl (by rw [← HNK.out]; exact hP1.own) ⟨gg, 0, none⟩ 1 1 [.int .i64 l.f, .int .i64 l.t, .int .i64 l.c] rfl rfl p1 (by intro u hu; simp at hu; rcases hu with rfl | rfl | rfl <;> rfl) (by have := HTL.out; unfold maxLen; omega) (by have := HTL.out; omega) hP1.sz ?_
        intro v' Y2 o2 hg2 hat2
        obtain ⟨qa, qc, rfl⟩ := own_slice o2
        have hP2 := hP1.push (by rw [HNK.out]; exact o2) hg2
        clear p1 o2 hg2 hat2 hP1
        refine hKc.out _ _ (HC.out _ _ _ trivial hP2) (fun hHeld => ?_)
        clear hKc Kc
        (try simp only [List.getElem_toArray, List.getElem_cons_zero, List.getElem_cons_succ, Act.put, List.setIfInBounds_toArray, List.set_cons_zero, List.set_cons_succ])
        refine wpAnyH_take (i := 14) (v := ?_) rfl (by kernel_rfl) (by kernel_rfl) (by kernel_rfl) (fun _ _ _ h => h) (Or.inl ⟨by rfl, ?_⟩) (by assumption) ?_
        rotate_left
        · intro w hSw
          (try dsimp only at hSw)
          go_simp
          (try with_reducible rfl)
        (try simp only [List.getElem_toArray, List.getElem_cons_zero, List.getElem_cons_succ, Act.put, List.setIfInBounds_toArray, List.set_cons_zero, List.set_cons_succ])
        refine wpAnyH_done (by kernel_rfl) ?_ _
        intro r
        have c6 := ibx hP2.box 2 vv rfl
        have f6 := free_at (L := [.int .i64 Z, .int .i64 H, vv, .int .i64 lo, .int .i64 hi]) hP2.box 2
        have hP9 := hP2.set (.slice qa (nk + 1) qc)
        clear hP2 hHeld HC
        refine wpAny_ready (rs := [15]) (by kernel_rfl) (by simp) ?_
        refine AllReady.cons (o := _) rfl (fun Kc hKc => ?_) AllReady.nil
        go_simp
        refine hKc _ _ ?_
        clear hKc Kc
        (try simp only [List.getElem_toArray, List.getElem_cons_zero, List.getElem_cons_succ, Act.put, List.setIfInBounds_toArray, List.set_cons_zero, List.set_cons_succ])
        refine wpAny_done (by kernel_rfl) ?_ _
        refine NoPanic.normal ?_
        clear c6 f6
        have HP9 := hid hP9
        clear hP9
        generalize Y2.setCell ⟨w.heap.size + 1, 2, none⟩ (.slice qa (nk + 1) qc) = Z9 at *

        go_wp2_with fail
        go_roundw
        case rel => exact ⟨k + 1, m, by have := HKM.out; omega, _, _, by rw [show 3 * (m + 1) - 3 = 3 * m by omega], HIN, _, by rw [HT.out]; exact HP9⟩
        case measure => simp only [lenV]; omega


end Go.Proofs.YteelnimchlgdmaaDoor
