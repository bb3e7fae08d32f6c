/- price: bounds. -/
import Derived.Test.YtcdkoadobdgbhaaGreatDoorZP17S
import Derived.Test.YtcdkoadobdgbhaaGreatDoorZP17K
import Derived.Deep.RegionHeld3
namespace Go.Proofs.YtcdkoadobdgbhaaGreatDoor
open Go.RowKit
set_option linter.unusedVariables false
set_option maxRecDepth 100000
set_option linter.unusedSimpArgs false

set_option maxHeartbeats 800000 in
theorem atLeast_any (w : World) (b : Nat) (x p : Int) (h : w.heap[b]? = some (.cells #[.int .i64 x] 3 (0, 0))) :
    Calls Tryz.prog 110 #[.int .i64 p, .pointer (some ⟨b, 0, none⟩)] w fun e w' => (∃ u, e = .returned u) ∧ w' = w.setCell ⟨b, 0, none⟩ (.int .i64 (max x p)) := by
  have c0 := cell_at (L := [_]) h 0 _ rfl
  have f0 := free_at (L := [_]) h 0
  obtain ⟨m, HM⟩ : ∃ m, Hid (max x p = m) := ⟨_, hid rfl⟩
  have hm1 : max x p = m := HM.out
  have hm2 : (if x < p then p else x) = m := by rw [← HM.out]; split <;> omega
  rw [HM.out]
  go_enter Tryz.func110, Tryz.ntmps110
  go_wp2_with fail
  first
    | go_end0
    | (refine bodyPost_ret (results_none rfl _ _ _) rfl ?_)
  exact ⟨⟨_, rfl⟩, rfl⟩
set_option maxHeartbeats 800000 in
theorem atMost_any (w : World) (b : Nat) (x p : Int) (h : w.heap[b]? = some (.cells #[.int .i64 x] 3 (0, 0))) :
    Calls Tryz.prog 111 #[.int .i64 p, .pointer (some ⟨b, 0, none⟩)] w fun e w' => (∃ u, e = .returned u) ∧ w' = w.setCell ⟨b, 0, none⟩ (.int .i64 (min x p)) := by
  have c0 := cell_at (L := [_]) h 0 _ rfl
  have f0 := free_at (L := [_]) h 0
  obtain ⟨m, HM⟩ : ∃ m, Hid (min x p = m) := ⟨_, hid rfl⟩
  have hm1 : min x p = m := HM.out
  have hm2 : (if p < x then p else x) = m := by rw [← HM.out]; split <;> omega
  rw [HM.out]
  go_enter Tryz.func111, Tryz.ntmps111
  go_wp2_with fail
  first
    | go_end0
    | (refine bodyPost_ret (results_none rfl _ _ _) rfl ?_)
  exact ⟨⟨_, rfl⟩, rfl⟩
def retB (r : Int × Int × Bool) : Ending := .returned (.tuple #[.int .i64 r.1, .int .i64 r.2.1, .bool r.2.2])
def Ge17 (W : World) (a b : Nat) : Prop := W.heap.size ≤ a ∧ W.heap.size ≤ b ∧ a ≠ b
structure Tl17 (p : Prop) : Prop where
  out : p
theorem sgnR_pos {q : Rat} : 0 < sgnR q ↔ 0 < q := by
  unfold sgnR
  by_cases h : q < 0
  · rw [if_pos h]; exact ⟨fun k => by omega, fun k => absurd (Rat.le_of_lt k) (Rat.not_le.2 h)⟩
  · rw [if_neg h]
    by_cases h2 : 0 < q
    · rw [if_pos h2]; exact ⟨fun _ => h2, fun _ => by decide⟩
    · rw [if_neg h2]; exact ⟨fun k => by omega, fun k => absurd k h2⟩
theorem cmpR_neg {p q : Rat} (h : p ≤ q) : cmpR p q < 0 ↔ p ≠ q := by
  unfold cmpR
  by_cases h1 : p < q
  · rw [if_pos h1]; exact ⟨fun _ e => by rw [e] at h1; exact Rat.lt_irrefl h1, fun _ => by decide⟩
  · rw [if_neg h1]
    have e : p = q := Rat.le_antisymm h (Rat.not_lt.1 h1)
    refine ⟨fun k => ?_, fun k => absurd e k⟩
    split at k <;> omega
set_option maxHeartbeats 12800000 in
theorem bounds17_any (w : World) (g : Gr) (la : Option Addr) (lc : Nat) (base : Nat) (tv : Value) (D : List (Sp × V4)) (Q : List Rat) (h z : Int) (hsh : Shs w base tv D Q) (hT : Takes (D.map Prod.fst) Q) (hq64 : ∀ s ∈ D.map Prod.fst, In64 s.qty) (hD : D.length ≤ 1000) :
    Calls Tryz.prog 62 #[.agg #[.int .i64 g.zones, .int .i64 g.hours, .slice la g.lines.length lc, .int .i64 g.low, .int .i64 g.high], tv, .agg #[.int .i64 h, .int .i64 z]] w fun e w' => e = retB (bndE (bndN h z g.low g.high (D.map Prod.fst) Q D.length)) ∧ Below w.heap.size w w' := by
  obtain ⟨ta, tc, rfl, tl, tm⟩ := hsh.row.slice
  have b0 := ibel w (Obj.cells #[.int .i64 g.zones, .int .i64 g.hours, .slice la g.lines.length lc, .int .i64 g.low, .int .i64 g.high] 25)
  have x0 := inew w (Obj.cells #[.int .i64 g.zones, .int .i64 g.hours, .slice la g.lines.length lc, .int .i64 g.low, .int .i64 g.high] 25)
  have b1 := ibel (w.alloc (Obj.cells #[.int .i64 g.zones, .int .i64 g.hours, .slice la g.lines.length lc, .int .i64 g.low, .int .i64 g.high] 25)) (Obj.cells #[.int .i64 h, .int .i64 z] 114)
  have x1 := inew (w.alloc (Obj.cells #[.int .i64 g.zones, .int .i64 g.hours, .slice la g.lines.length lc, .int .i64 g.low, .int .i64 g.high] 25)) (Obj.cells #[.int .i64 h, .int .i64 z] 114)
  have z3 := ikc b1 (ibx x0 3 _ rfl)
  have z4 := ikc b1 (ibx x0 4 _ rfl)
  have p0 := ibx x1 0 _ rfl
  have p1 := ibx x1 1 _ rfl
  simp only [World.size_alloc] at p0 p1
  have HB0 := hid (chain2 b0 b1)
  have HSH := hid (hsh.below HB0.out)
  have HT := hid hT
  have HQ64 := hid hq64
  clear b0 x0 b1 x1 hsh hT hq64
  go_enter Tryz.func62, Tryz.ntmps62
  go_wp2_with fail
  have hsz : ((w.alloc (Obj.cells #[.int .i64 g.zones, .int .i64 g.hours, .slice la g.lines.length lc, .int .i64 g.low, .int .i64 g.high] 25)).alloc (Obj.cells #[.int .i64 h, .int .i64 z] 114)).heap.size = w.heap.size + 2 := by simp
  have HSZ := hid hsz
  clear hsz
  generalize hW0 : (w.alloc (Obj.cells #[.int .i64 g.zones, .int .i64 g.hours, .slice la g.lines.length lc, .int .i64 g.low, .int .i64 g.high] 25)).alloc (Obj.cells #[.int .i64 h, .int .i64 z] 114) = W0 at *
  clear hW0
  have hzz3 : W0.cell? ⟨w.heap.size, 3, none⟩ = some (.int .i64 g.low) := z3
  have hzz4 : W0.cell? ⟨w.heap.size, 4, none⟩ = some (.int .i64 g.high) := z4
  have HC := hid (fun (Y : World) (b : Below W0.heap.size W0 Y) => (⟨ikc b hzz3, ikc b hzz4⟩ : Y.cell? ⟨w.heap.size, 3, none⟩ = some (.int .i64 g.low) ∧ Y.cell? ⟨w.heap.size, 4, none⟩ = some (.int .i64 g.high)))
  have HP : Hid (W0.cell? ⟨w.heap.size + 1, 0, none⟩ = some (.int .i64 h) ∧ W0.cell? ⟨w.heap.size + 1, 1, none⟩ = some (.int .i64 z)) := hid ⟨p0, p1⟩
  clear z3 z4 p0 p1 hzz3 hzz4
  have F0 : Below W0.heap.size W0 W0.drew := (Below.refl _ _).drew
  refine (fun (TAIL : Tl17 (?T : Prop)) => ?goal) ?tail
  case goal =>
    refine wp_region_noPanic ?_
    refine wp_region_held_drew (S := fun Y => Y.cell? ⟨w.heap.size, 3, none⟩ = some (.int .i64 g.low) ∧ Y.cell? ⟨w.heap.size, 4, none⟩ = some (.int .i64 g.high)) (by kernel_rfl) (HC.out _ F0) (fun hHeld => ?_)
    refine wpAnyH_take (i := 0) (v := ?_) rfl (by kernel_rfl) (by kernel_rfl) (by kernel_rfl) (fun _ _ _ h => h) (Or.inl ⟨by rfl, ?_⟩) (by assumption) ?_
    rotate_left
    · intro w hSw
      (try dsimp only at hSw)
      go_simp
      (try with_reducible rfl)
    (try simp only [List.getElem_toArray, List.getElem_cons_zero, List.getElem_cons_succ, Act.put, List.setIfInBounds_toArray, List.set_cons_zero, List.set_cons_succ])
    refine wpAnyH_take (i := 1) (v := ?_) rfl (by kernel_rfl) (by kernel_rfl) (by kernel_rfl) (fun _ _ _ h => h) (Or.inl ⟨by rfl, ?_⟩) (by assumption) ?_
    rotate_left
    · intro w hSw
      (try dsimp only at hSw)
      go_simp
      (try with_reducible rfl)
    (try simp only [List.getElem_toArray, List.getElem_cons_zero, List.getElem_cons_succ, Act.put, List.setIfInBounds_toArray, List.set_cons_zero, List.set_cons_succ])
    refine wpAnyH_take (i := 2) (v := ?_) rfl (by kernel_rfl) (by kernel_rfl) (by kernel_rfl) (fun _ _ _ h => h) (Or.inl ⟨by rfl, ?_⟩) (by assumption) ?_
    rotate_left
    · intro w hSw
      (try dsimp only at hSw)
      go_simp
      (try with_reducible rfl)
    (try simp only [List.getElem_toArray, List.getElem_cons_zero, List.getElem_cons_succ, Act.put, List.setIfInBounds_toArray, List.set_cons_zero, List.set_cons_succ])
    refine wpAnyH_take (i := 3) (v := ?_) rfl (by kernel_rfl) (by kernel_rfl) (by kernel_rfl) (fun _ _ _ h => h) (Or.inl ⟨by rfl, ?_⟩) (by assumption) ?_
    rotate_left
    · intro w hSw
      (try dsimp only at hSw)
      go_simp
      (try with_reducible rfl)
    (try simp only [List.getElem_toArray, List.getElem_cons_zero, List.getElem_cons_succ, Act.put, List.setIfInBounds_toArray, List.set_cons_zero, List.set_cons_succ])
    refine wpAnyH_ready (rs := [4, 5]) (by kernel_rfl) (by simp) ?_
    refine AllReadyH.cons (o := _) rfl (fun Kc hKc => ?_) (AllReadyH.cons (o := _) rfl (fun Kc hKc => ?_) (AllReadyH.nil))
    · go_simp
      refine hKc.out _ _ (HC.out _ (ibel W0 (Obj.cells #[.int .i64 0] 3)).drew) (fun hHeld => ?_)
      clear hKc Kc
      (try simp only [List.getElem_toArray, List.getElem_cons_zero, List.getElem_cons_succ, Act.put, List.setIfInBounds_toArray, List.set_cons_zero, List.set_cons_succ])
      refine wpAnyH_ready (rs := [5]) (by kernel_rfl) (by simp) ?_
      refine AllReadyH.cons (o := _) rfl (fun Kc hKc => ?_) AllReadyH.nil
      go_simp
      refine hKc.out _ _ (HC.out _ (((ibel W0 (Obj.cells #[.int .i64 0] 3)).trans ((ibel (W0.alloc (Obj.cells #[.int .i64 0] 3)) (Obj.cells #[.int .i64 0] 3)).mono (by simp))).drew)) (fun hHeld => ?_)
      clear hKc Kc
      (try simp only [List.getElem_toArray, List.getElem_cons_zero, List.getElem_cons_succ, Act.put, List.setIfInBounds_toArray, List.set_cons_zero, List.set_cons_succ])
      refine wpAnyH_ready (rs := [6]) (by kernel_rfl) (by simp) ?_
      refine AllReadyH.cons (o := _) rfl (fun Kc hKc => ?_) AllReadyH.nil
      go_simp
      refine hKc.out _ _ (HC.out _ (((ibel W0 (Obj.cells #[.int .i64 g.low] 3)).trans ((ibel (W0.alloc (Obj.cells #[.int .i64 g.low] 3)) (Obj.cells #[.int .i64 0] 3)).mono (by simp))).drew)) (fun hHeld => ?_)
      clear hKc Kc
      (try simp only [List.getElem_toArray, List.getElem_cons_zero, List.getElem_cons_succ, Act.put, List.setIfInBounds_toArray, List.set_cons_zero, List.set_cons_succ])
      refine wpAnyH_ready (rs := [7]) (by kernel_rfl) (by simp) ?_
      refine AllReadyH.cons (o := _) rfl (fun Kc hKc => ?_) AllReadyH.nil
      go_simp
      refine hKc.out _ _ (HC.out _ (((ibel W0 (Obj.cells #[.int .i64 g.low] 3)).trans ((ibel (W0.alloc (Obj.cells #[.int .i64 g.low] 3)) (Obj.cells #[.int .i64 g.high] 3)).mono (by simp))).drew)) (fun hHeld => ?_)
      clear hKc Kc
      (try simp only [List.getElem_toArray, List.getElem_cons_zero, List.getElem_cons_succ, Act.put, List.setIfInBounds_toArray, List.set_cons_zero, List.set_cons_succ])
      refine wpAnyH_done (by kernel_rfl) ?_ _
      refine NoPanic.normal ?_
      have HB1 : Hid (Below W0.heap.size W0 ((W0.alloc (Obj.cells #[.int .i64 g.low] 3)).alloc (Obj.cells #[.int .i64 g.high] 3)).drew) := hid (((ibel W0 (Obj.cells #[.int .i64 g.low] 3)).trans ((ibel (W0.alloc (Obj.cells #[.int .i64 g.low] 3)) (Obj.cells #[.int .i64 g.high] 3)).mono (by simp))).drew)
      have H9 : Hid (((W0.alloc (Obj.cells #[.int .i64 g.low] 3)).alloc (Obj.cells #[.int .i64 g.high] 3)).drew.heap[W0.heap.size]? = some (Obj.cells #[.int .i64 g.low] 3)) := hid (((ibel (W0.alloc (Obj.cells #[.int .i64 g.low] 3)) (Obj.cells #[.int .i64 g.high] 3)).block _ (by simp)).trans (inew W0 (Obj.cells #[.int .i64 g.low] 3)))
      have H10 : Hid (((W0.alloc (Obj.cells #[.int .i64 g.low] 3)).alloc (Obj.cells #[.int .i64 g.high] 3)).drew.heap[W0.heap.size + 1]? = some (Obj.cells #[.int .i64 g.high] 3)) := hid (by
        have hh := inew (W0.alloc (Obj.cells #[.int .i64 g.low] 3)) (Obj.cells #[.int .i64 g.high] 3)
        rw [World.size_alloc] at hh
        exact hh)
      have HGE : Hid (Ge17 W0 (W0.heap.size) (W0.heap.size + 1)) := hid (by unfold Ge17; simp)
      clear hHeld
      generalize ((W0.alloc (Obj.cells #[.int .i64 g.low] 3)).alloc (Obj.cells #[.int .i64 g.high] 3)).drew = W1 at HB1 H9 H10 ⊢
      generalize HB10 : W0.heap.size + 1 = b10 at H10 HGE ⊢
      generalize HB9 : W0.heap.size = b9 at H9 HGE ⊢
      clear HB9 HB10
      revert HGE
      revert H10
      revert H9
      revert HB1
      revert b10
      revert b9
      revert W1
      exact TAIL.out
    · go_simp
      refine hKc.out _ _ (HC.out _ (ibel W0 (Obj.cells #[.int .i64 0] 3)).drew) (fun hHeld => ?_)
      clear hKc Kc
      (try simp only [List.getElem_toArray, List.getElem_cons_zero, List.getElem_cons_succ, Act.put, List.setIfInBounds_toArray, List.set_cons_zero, List.set_cons_succ])
      refine wpAnyH_ready (rs := [4]) (by kernel_rfl) (by simp) ?_
      refine AllReadyH.cons (o := _) rfl (fun Kc hKc => ?_) AllReadyH.nil
      go_simp
      refine hKc.out _ _ (HC.out _ (((ibel W0 (Obj.cells #[.int .i64 0] 3)).trans ((ibel (W0.alloc (Obj.cells #[.int .i64 0] 3)) (Obj.cells #[.int .i64 0] 3)).mono (by simp))).drew)) (fun hHeld => ?_)
      clear hKc Kc
      (try simp only [List.getElem_toArray, List.getElem_cons_zero, List.getElem_cons_succ, Act.put, List.setIfInBounds_toArray, List.set_cons_zero, List.set_cons_succ])
      refine wpAnyH_ready (rs := [6]) (by kernel_rfl) (by simp) ?_
      refine AllReadyH.cons (o := _) rfl (fun Kc hKc => ?_) AllReadyH.nil
      go_simp
      refine hKc.out _ _ (HC.out _ (((ibel W0 (Obj.cells #[.int .i64 0] 3)).trans ((ibel (W0.alloc (Obj.cells #[.int .i64 0] 3)) (Obj.cells #[.int .i64 g.low] 3)).mono (by simp))).drew)) (fun hHeld => ?_)
      clear hKc Kc
      (try simp only [List.getElem_toArray, List.getElem_cons_zero, List.getElem_cons_succ, Act.put, List.setIfInBounds_toArray, List.set_cons_zero, List.set_cons_succ])
      refine wpAnyH_ready (rs := [7]) (by kernel_rfl) (by simp) ?_
      refine AllReadyH.cons (o := _) rfl (fun Kc hKc => ?_) AllReadyH.nil
      go_simp
      refine hKc.out _ _ (HC.out _ (((ibel W0 (Obj.cells #[.int .i64 g.high] 3)).trans ((ibel (W0.alloc (Obj.cells #[.int .i64 g.high] 3)) (Obj.cells #[.int .i64 g.low] 3)).mono (by simp))).drew)) (fun hHeld => ?_)
      clear hKc Kc
      (try simp only [List.getElem_toArray, List.getElem_cons_zero, List.getElem_cons_succ, Act.put, List.setIfInBounds_toArray, List.set_cons_zero, List.set_cons_succ])
      refine wpAnyH_done (by kernel_rfl) ?_ _
      refine NoPanic.normal ?_
      have HB1 : Hid (Below W0.heap.size W0 ((W0.alloc (Obj.cells #[.int .i64 g.high] 3)).alloc (Obj.cells #[.int .i64 g.low] 3)).drew) := hid (((ibel W0 (Obj.cells #[.int .i64 g.high] 3)).trans ((ibel (W0.alloc (Obj.cells #[.int .i64 g.high] 3)) (Obj.cells #[.int .i64 g.low] 3)).mono (by simp))).drew)
      have H10 : Hid (((W0.alloc (Obj.cells #[.int .i64 g.high] 3)).alloc (Obj.cells #[.int .i64 g.low] 3)).drew.heap[W0.heap.size]? = some (Obj.cells #[.int .i64 g.high] 3)) := hid (((ibel (W0.alloc (Obj.cells #[.int .i64 g.high] 3)) (Obj.cells #[.int .i64 g.low] 3)).block _ (by simp)).trans (inew W0 (Obj.cells #[.int .i64 g.high] 3)))
      have H9 : Hid (((W0.alloc (Obj.cells #[.int .i64 g.high] 3)).alloc (Obj.cells #[.int .i64 g.low] 3)).drew.heap[W0.heap.size + 1]? = some (Obj.cells #[.int .i64 g.low] 3)) := hid (by
        have hh := inew (W0.alloc (Obj.cells #[.int .i64 g.high] 3)) (Obj.cells #[.int .i64 g.low] 3)
        rw [World.size_alloc] at hh
        exact hh)
      have HGE : Hid (Ge17 W0 (W0.heap.size + 1) (W0.heap.size)) := hid (by unfold Ge17; simp)
      clear hHeld
      exact TAIL.out _ _ _ HB1 H9 H10 HGE

  case tail =>
  refine ⟨?_⟩
  intro W1 b9 b10 HB1 H9 H10 HGE
  clear F0 HC
  go_wp2_with fail
  go_loopw [25] (fun i wr => ∃ (k : Nat) (lo hi : Int), k ≤ D.length ∧ i = .int .i64 (k : Int) ∧ Hid (bndN h z g.low g.high (D.map Prod.fst) Q k = (lo, hi)) ∧ Hid (wr.heap[b9]? = some (.cells #[.int .i64 lo] 3 (0, 0))) ∧ Hid (wr.heap[b10]? = some (.cells #[.int .i64 hi] 3 (0, 0))) ∧ Hid (Below W0.heap.size W0 wr)) (fun i _ => D.length - (intOf i).toNat)
  case atStart => exact ⟨0, _, _, Nat.zero_le _, rfl, hid rfl, H9, H10, HB1⟩
  case round =>
    clear H9 H10
    obtain ⟨k, lo, hi, hk, rfl, HBD, H9, H10, HBW⟩ := hrel
    by_cases hlt : k < D.length
    · obtain ⟨gq, cq, e, -, hcc⟩ := (HSH.out.row.below HBW.out).at k hlt
      simp only [Value.slice.injEq] at e
      obtain ⟨rfl, -, rfl⟩ := e
      have hkQ : k < Q.length := by rw [HSH.out.len]; exact hlt
      have hkM : k < (D.map Prod.fst).length := by rw [List.length_map]; exact hlt
      have HQI := hid ((HSH.out.is_ k hlt hkQ).below HBW.out)
      have HTK := hid (HT.out.is_ k hkM hkQ)
      have HNX := hid (bndN_succ (h := h) (z := z) (lo := g.low) (hi := g.high) hkM hkQ)
      have HQT := hid (HQ64.out _ (List.getElem_mem hkM))
      rw [List.getElem_map] at HNX HQT HTK
      rw [HBD.out] at HNX
      have hli : (0 : Int) ≤ (k : Int) ∧ (k : Int) < (D.length : Int) := by omega
      obtain ⟨q, HXQ⟩ : ∃ q, Hid (Q[k] = q) := ⟨_, hid rfl⟩
      rw [HXQ.out] at HQI HTK HNX
      obtain ⟨x, HX⟩ : ∃ x, Hid (D[k] = x) := ⟨_, hid rfl⟩
      rw [HX.out] at HQI HTK HNX HQT hcc
      obtain ⟨s, y1, y2, y3, y4⟩ := x
      obtain ⟨s1, s2, s3, s4, s5, s6, s7, s8, ef⟩ := HQI.out.form
      simp only [v4, Value.agg.injEq, Array.mk.injEq, List.cons.injEq, and_true] at ef
      obtain ⟨rfl, rfl, rfl, rfl⟩ := ef
      simp only [v4] at HQI
      (try simp only at HNX HQT HTK)
      have g0 := hcc 0 _ rfl
      have g1 := hcc 1 _ rfl
      have g2 := hcc 2 _ rfl
      have g3 := hcc 3 _ rfl
      have g4 := hcc 4 _ rfl
      have g5 := hcc 5 _ rfl
      have g6 := hcc 6 _ rfl
      have g7 := hcc 7 _ rfl
      have g8 := hcc 8 _ rfl
      have g9 := hcc 9 _ rfl
      have g10 := hcc 10 _ rfl
      simp only [Nat.add_zero] at g0
      have HQ0 := hid (HSH.out.is_ k hlt hkQ)
      rw [HX.out, HXQ.out] at HQ0
      simp only [v4] at HQ0
      obtain ⟨bu, HBU⟩ : ∃ b, Hid (s.buy = b) := ⟨_, hid rfl⟩
      rw [HBU.out] at g4
      have HLE := hid HTK.out.2
      have bS := ibel wr (Obj.cells #[.string s.who, .int .i64 s.seq, .int .i64 s.zone, .int .i64 s.hour, .bool bu, .int .i64 s.qty, .int .i64 s.price, .slice s1 s2 s3, .bool s4, .slice s5 s6 s7, .bool s8] 156)
      have xS := inew wr (Obj.cells #[.string s.who, .int .i64 s.seq, .int .i64 s.zone, .int .i64 s.hour, .bool bu, .int .i64 s.qty, .int .i64 s.price, .slice s1 s2 s3, .bool s4, .slice s5 s6 s7, .bool s8] 156)
      have p0 := ikc (HBW.out.trans (bS.mono HBW.out.size)) HP.out.1
      have p1 := ikc (HBW.out.trans (bS.mono HBW.out.size)) HP.out.2
      have u2 := ibx xS 2 (.int .i64 s.zone) rfl
      have u3 := ibx xS 3 (.int .i64 s.hour) rfl
      have u4 := ibx xS 4 (.bool bu) rfl
      have u5 := ibx xS 5 (.int .i64 s.qty) rfl
      have u6 := ibx xS 6 (.int .i64 s.price) rfl
      have u7 := ibx xS 7 (.slice s1 s2 s3) rfl
      have u8 := ibx xS 8 (.bool s4) rfl
      have u9 := ibx xS 9 (.slice s5 s6 s7) rfl
      have u10 := ibx xS 10 (.bool s8) rfl
      have HAm : Hid ((wr.alloc (Obj.cells #[.string s.who, .int .i64 s.seq, .int .i64 s.zone, .int .i64 s.hour, .bool bu, .int .i64 s.qty, .int .i64 s.price, .slice s1 s2 s3, .bool s4, .slice s5 s6 s7, .bool s8] 156)).heap[b9]? = some (.cells #[.int .i64 lo] 3 (0, 0))) := hid ((bS.block b9 (lt_of_block H9.out)).trans H9.out)
      have HCm : Hid ((wr.alloc (Obj.cells #[.string s.who, .int .i64 s.seq, .int .i64 s.zone, .int .i64 s.hour, .bool bu, .int .i64 s.qty, .int .i64 s.price, .slice s1 s2 s3, .bool s4, .slice s5 s6 s7, .bool s8] 156)).heap[b10]? = some (.cells #[.int .i64 hi] 3 (0, 0))) := hid ((bS.block b10 (lt_of_block H10.out)).trans H10.out)
      have HKm : Hid (Kq (fun k => k = b9 ∨ k = b10) (wr.alloc (Obj.cells #[.string s.who, .int .i64 s.seq, .int .i64 s.zone, .int .i64 s.hour, .bool bu, .int .i64 s.qty, .int .i64 s.price, .slice s1 s2 s3, .bool s4, .slice s5 s6 s7, .bool s8] 156)) (wr.alloc (Obj.cells #[.string s.who, .int .i64 s.seq, .int .i64 s.zone, .int .i64 s.hour, .bool bu, .int .i64 s.qty, .int .i64 s.price, .slice s1 s2 s3, .bool s4, .slice s5 s6 s7, .bool s8] 156))) := hid (Kq.refl _ _)
      have HWm : Hid (Below W0.heap.size W0 (wr.alloc (Obj.cells #[.string s.who, .int .i64 s.seq, .int .i64 s.zone, .int .i64 s.hour, .bool bu, .int .i64 s.qty, .int .i64 s.price, .slice s1 s2 s3, .bool s4, .slice s5 s6 s7, .bool s8] 156))) := hid (HBW.out.trans (bS.mono HBW.out.size))
      have HNB : Hid (¬ (wr.heap.size = b9 ∨ wr.heap.size = b10)) := hid (fun e => by
        have l1 := lt_of_block H9.out
        have l2 := lt_of_block H10.out
        omega)
      clear hcc xS
      by_cases hh : h = s.hour
      case neg =>
        have hh1 : (h = s.hour) = False := eq_false hh
        have HN := hid (show bndN h z g.low g.high (D.map Prod.fst) Q (k + 1) = (lo, hi) by rw [HNX.out]; unfold bstep; rw [if_neg (fun e => hh e.1.symm)])
        clear hh
        go_wp2_with fail
        go_roundw
        case rel => exact ⟨k + 1, _, _, by omega, by go_num, HN, HAm, HCm, HWm⟩
        case measure => simp [intOf]; omega
      by_cases hz : z = s.zone
      case neg =>
        have hh1 : (h = s.hour) = True := eq_true hh
        have hz1 : (z = s.zone) = False := eq_false hz
        have HN := hid (show bndN h z g.low g.high (D.map Prod.fst) Q (k + 1) = (lo, hi) by rw [HNX.out]; unfold bstep; rw [if_neg (fun e => hz e.2.symm)])
        clear hh hz
        go_wp2_with fail
        go_roundw
        case rel => exact ⟨k + 1, _, _, by omega, by go_num, HN, HAm, HCm, HWm⟩
        case measure => simp [intOf]; omega
      have hh1 : (h = s.hour) = True := eq_true hh
      have hz1 : (z = s.zone) = True := eq_true hz
      have HSAME : Hid (s.hour = h ∧ s.zone = z) := hid ⟨hh.symm, hz.symm⟩
      have HSI := hid (q_sign (wr.alloc (Obj.cells #[.string s.who, .int .i64 s.seq, .int .i64 s.zone, .int .i64 s.hour, .bool bu, .int .i64 s.qty, .int .i64 s.price, .slice s1 s2 s3, .bool s4, .slice s5 s6 s7, .bool s8] 156)) _ q 40 (by decide) (HQ0.out.below HWm.out))
      obtain ⟨sg, HSGE⟩ : ∃ x, Hid (sgnR q = x) := ⟨_, hid rfl⟩
      obtain ⟨cm, HCME⟩ : ∃ x, Hid (cmpR q (s.qty : Rat) = x) := ⟨_, hid rfl⟩
      have hsgr := HSGE.out
      have hcmr := HCME.out
      clear bS hh hz
      cases bu with
      | true =>
        go_wp2_with fail
        refine HSI.out.mono ?_
        rintro e Y1 ⟨he, hbs⟩
        rw [hsgr] at he
        subst he
        have HA0 : Hid (Y1.heap[b9]? = some (.cells #[.int .i64 lo] 3 (0, 0))) := hid ((hbs.block b9 (lt_of_block HAm.out)).trans HAm.out)
        have HC0 : Hid (Y1.heap[b10]? = some (.cells #[.int .i64 hi] 3 (0, 0))) := hid ((hbs.block b10 (lt_of_block HCm.out)).trans HCm.out)
        have HK0 : Hid (Kq (fun k => k = b9 ∨ k = b10) (wr.alloc (Obj.cells #[.string s.who, .int .i64 s.seq, .int .i64 s.zone, .int .i64 s.hour, .bool true, .int .i64 s.qty, .int .i64 s.price, .slice s1 s2 s3, .bool s4, .slice s5 s6 s7, .bool s8] 156)) Y1) := hid (HKm.out.trans (Kq.of_below hbs))
        have HW0 : Hid (Below W0.heap.size W0 Y1) := hid (HWm.out.trans (hbs.mono HWm.out.size))
        have hu6 : Y1.cell? ⟨wr.heap.size, 6, none⟩ = some (.int .i64 s.price) := HK0.out.cell u6 HNB.out
        by_cases h1 : 0 < sg
        · have h1' : decide (0 < sg) = true := decide_eq_true h1
          have HSM : Hid ((0 < q) = True) := hid (by simp only [eq_iff_iff, iff_true]; exact sgnR_pos.1 (by rw [hsgr]; exact h1))
          clear h1
          go_wp2_with fail
          refine (atMost_any Y1 b10 hi s.price HC0.out).mono ?_
          rintro e Z1 ⟨⟨u, rfl⟩, hZ⟩
          have HC1 : Hid (Z1.heap[b10]? = some (.cells #[.int .i64 (min hi s.price)] 3 (0, 0))) := hid (by rw [hZ]; simpa using set_at (L := [.int .i64 hi]) (k := 0) (v := .int .i64 (min hi s.price)) HC0.out)
          have HA1 : Hid (Z1.heap[b9]? = some (.cells #[.int .i64 lo] 3 (0, 0))) := hid (by rw [hZ, Below.heap_setCell _ ⟨b10, 0, none⟩ _ _ (by have := HGE.out.2.2; exact this)]; exact HA0.out)
          have HK1 : Hid (Kq (fun k => k = b9 ∨ k = b10) (wr.alloc (Obj.cells #[.string s.who, .int .i64 s.seq, .int .i64 s.zone, .int .i64 s.hour, .bool true, .int .i64 s.qty, .int .i64 s.price, .slice s1 s2 s3, .bool s4, .slice s5 s6 s7, .bool s8] 156)) Z1) := hid (by rw [hZ]; exact HK0.out.set b10 0 _ (Or.inl (Or.inr rfl)))
          have HW1 : Hid (Below W0.heap.size W0 Z1) := hid (by rw [hZ]; exact HW0.out.setCell (p := ⟨b10, 0, none⟩) HGE.out.2.1 _)
          clear hZ
          clear hu6
          go_wp2_with fail
          have F1 : Below Z1.heap.size Z1 Z1.drew := (Below.refl _ _).drew
          have HQV := hid (HQ0.out.below HW1.out)
          have HCV := hid (fun (Y : World) (b : Below Z1.heap.size Z1 Y) => (⟨ikc b (HK1.out.cell u5 HNB.out), ikc b (HK1.out.cell u7 HNB.out), ikc b (HK1.out.cell u8 HNB.out), ikc b (HK1.out.cell u9 HNB.out), ikc b (HK1.out.cell u10 HNB.out)⟩ : Y.cell? ⟨wr.heap.size, 5, none⟩ = some (.int .i64 s.qty) ∧ Y.cell? ⟨wr.heap.size, 7, none⟩ = some (.slice s1 s2 s3) ∧ Y.cell? ⟨wr.heap.size, 8, none⟩ = some (.bool s4) ∧ Y.cell? ⟨wr.heap.size, 9, none⟩ = some (.slice s5 s6 s7) ∧ Y.cell? ⟨wr.heap.size, 10, none⟩ = some (.bool s8)))
          by_cases h2 : cm < 0
          · have h2' : decide (cm < 0) = true := decide_eq_true h2
            have HAL : Hid ((q ≠ (s.qty : Rat)) = True) := hid (by simp only [eq_iff_iff, iff_true]; exact (cmpR_neg HLE.out).1 (by rw [hcmr]; exact h2))
            clear h2
            refine wp_region_noPanic ?_
            refine wp_region_held_drew (S := fun Y => Y.cell? ⟨wr.heap.size, 5, none⟩ = some (.int .i64 s.qty) ∧ Y.cell? ⟨wr.heap.size, 7, none⟩ = some (.slice s1 s2 s3) ∧ Y.cell? ⟨wr.heap.size, 8, none⟩ = some (.bool s4) ∧ Y.cell? ⟨wr.heap.size, 9, none⟩ = some (.slice s5 s6 s7) ∧ Y.cell? ⟨wr.heap.size, 10, none⟩ = some (.bool s8)) (by kernel_rfl) (HCV.out _ F1) (fun hHeld => ?_)
            refine wpAnyH_take (i := 0) (v := ?_) rfl (by kernel_rfl) (by kernel_rfl) (by kernel_rfl) (fun _ _ _ h => h) (Or.inl ⟨by rfl, ?_⟩) (by assumption) ?_
            rotate_left
            · intro w hSw
              (try dsimp only at hSw)
              go_simp
              (try with_reducible rfl)
            (try simp only [List.getElem_toArray, List.getElem_cons_zero, List.getElem_cons_succ, Act.put, List.setIfInBounds_toArray, List.set_cons_zero, List.set_cons_succ])
            refine wpAnyH_take (i := 1) (v := ?_) rfl (by kernel_rfl) (by kernel_rfl) (by kernel_rfl) (fun _ _ _ h => h) (Or.inl ⟨by rfl, ?_⟩) (by assumption) ?_
            rotate_left
            · intro w hSw
              (try dsimp only at hSw)
              go_simp
              (try with_reducible rfl)
            (try simp only [List.getElem_toArray, List.getElem_cons_zero, List.getElem_cons_succ, Act.put, List.setIfInBounds_toArray, List.set_cons_zero, List.set_cons_succ])
            refine wpAnyH_take (i := 2) (v := ?_) rfl (by kernel_rfl) (by kernel_rfl) (by kernel_rfl) (fun _ _ _ h => h) (Or.inl ⟨by rfl, ?_⟩) (by assumption) ?_
            rotate_left
            · intro w hSw
              (try dsimp only at hSw)
              go_simp
              (try with_reducible rfl)
            (try simp only [List.getElem_toArray, List.getElem_cons_zero, List.getElem_cons_succ, Act.put, List.setIfInBounds_toArray, List.set_cons_zero, List.set_cons_succ])
            refine wpAnyH_take (i := 3) (v := ?_) rfl (by kernel_rfl) (by kernel_rfl) (by kernel_rfl) (fun _ _ _ h => h) (Or.inl ⟨by rfl, ?_⟩) (by assumption) ?_
            rotate_left
            · intro w hSw
              (try dsimp only at hSw)
              go_simp
              (try with_reducible rfl)
            (try simp only [List.getElem_toArray, List.getElem_cons_zero, List.getElem_cons_succ, Act.put, List.setIfInBounds_toArray, List.set_cons_zero, List.set_cons_succ])
            refine wpAnyH_take (i := 4) (v := ?_) rfl (by kernel_rfl) (by kernel_rfl) (by kernel_rfl) (fun _ _ _ h => h) (Or.inl ⟨by rfl, ?_⟩) (by assumption) ?_
            rotate_left
            · intro w hSw
              (try dsimp only at hSw)
              go_simp
              (try with_reducible rfl)
            (try simp only [List.getElem_toArray, List.getElem_cons_zero, List.getElem_cons_succ, Act.put, List.setIfInBounds_toArray, List.set_cons_zero, List.set_cons_succ])
            refine wpAnyH_ready (rs := [5]) (by kernel_rfl) (by simp) ?_
            refine AllReadyH.cons (o := _) rfl (fun Kc hKc => ?_) AllReadyH.nil
            go_simp
            go_at_call 84
            refine (q_of _ s.qty HQT.out.1 HQT.out.2).mono ?_
            rintro e w' ⟨v1, rfl, nv1, hb⟩
            have F2 := chain2 F1 hb
            replace nv1 := nv1.mono (show 2 ≤ 40 by decide)
            dsimp only
            refine hKc.out _ _ (HCV.out _ F2) (fun hHeld => ?_)
            clear hKc Kc
            (try simp only [List.getElem_toArray, List.getElem_cons_zero, List.getElem_cons_succ, Act.put, List.setIfInBounds_toArray, List.set_cons_zero, List.set_cons_succ])
            refine wpAnyH_ready (rs := [6]) (by kernel_rfl) (by simp) ?_
            refine AllReadyH.cons (o := _) rfl (fun Kc hKc => ?_) AllReadyH.nil
            go_simp
            go_at_call 92
            refine (q_cmp _ _ _ q (s.qty : Rat) 40 (by decide) (HQV.out.below F2) nv1).mono ?_
            rintro e w' ⟨he, hb⟩
            rw [hcmr] at he
            subst he
            have F3 := chain2 F2 hb
            dsimp only
            refine hKc.out _ _ (HCV.out _ F3) (fun hHeld => ?_)
            clear hKc Kc
            (try simp only [List.getElem_toArray, List.getElem_cons_zero, List.getElem_cons_succ, Act.put, List.setIfInBounds_toArray, List.set_cons_zero, List.set_cons_succ])
            refine wpAnyH_take (i := 7) (v := ?_) rfl (by kernel_rfl) (by kernel_rfl) (by kernel_rfl) (fun _ _ _ h => h) (Or.inl ⟨by rfl, ?_⟩) (by assumption) ?_
            rotate_left
            · intro w hSw
              (try dsimp only at hSw)
              go_simp
              (try with_reducible rfl)
            (try simp only [List.getElem_toArray, List.getElem_cons_zero, List.getElem_cons_succ, Act.put, List.setIfInBounds_toArray, List.set_cons_zero, List.set_cons_succ])
            refine wpAnyH_done (by kernel_rfl) ?_ _
            refine NoPanic.normal ?_

            have HA2 : Hid (w'.heap[b9]? = some (.cells #[.int .i64 lo] 3 (0, 0))) := hid ((F3.block b9 (lt_of_block HA1.out)).trans HA1.out)
            have HC2 : Hid (w'.heap[b10]? = some (.cells #[.int .i64 (min hi s.price)] 3 (0, 0))) := hid ((F3.block b10 (lt_of_block HC1.out)).trans HC1.out)
            have HK2 : Hid (Kq (fun k => k = b9 ∨ k = b10) (wr.alloc (Obj.cells #[.string s.who, .int .i64 s.seq, .int .i64 s.zone, .int .i64 s.hour, .bool true, .int .i64 s.qty, .int .i64 s.price, .slice s1 s2 s3, .bool s4, .slice s5 s6 s7, .bool s8] 156)) w') := hid (HK1.out.trans (Kq.of_below F3))
            have HW2 : Hid (Below W0.heap.size W0 w') := hid (HW1.out.trans (F3.mono HW1.out.size))
            have hw6 : w'.cell? ⟨wr.heap.size, 6, none⟩ = some (.int .i64 s.price) := HK2.out.cell u6 HNB.out
            clear hHeld F1 F2 F3 nv1 hb
            go_wp2_with fail
            refine (atLeast_any w' b9 lo s.price HA2.out).mono ?_
            rintro e Z3 ⟨⟨u, rfl⟩, hZ⟩
            have HA3 : Hid (Z3.heap[b9]? = some (.cells #[.int .i64 (max lo s.price)] 3 (0, 0))) := hid (by rw [hZ]; simpa using set_at (L := [.int .i64 lo]) (k := 0) (v := .int .i64 (max lo s.price)) HA2.out)
            have HC3 : Hid (Z3.heap[b10]? = some (.cells #[.int .i64 (min hi s.price)] 3 (0, 0))) := hid (by rw [hZ, Below.heap_setCell _ ⟨b9, 0, none⟩ _ _ (by have := HGE.out.2.2; exact fun e => this e.symm)]; exact HC2.out)
            have HK3 : Hid (Kq (fun k => k = b9 ∨ k = b10) (wr.alloc (Obj.cells #[.string s.who, .int .i64 s.seq, .int .i64 s.zone, .int .i64 s.hour, .bool true, .int .i64 s.qty, .int .i64 s.price, .slice s1 s2 s3, .bool s4, .slice s5 s6 s7, .bool s8] 156)) Z3) := hid (by rw [hZ]; exact HK2.out.set b9 0 _ (Or.inl (Or.inl rfl)))
            have HW3 : Hid (Below W0.heap.size W0 Z3) := hid (by rw [hZ]; exact HW2.out.setCell (p := ⟨b9, 0, none⟩) HGE.out.1 _)
            clear hZ
            clear hw6
            go_wp2_with fail
            have HN := hid (show bndN h z g.low g.high (D.map Prod.fst) Q (k + 1) = ((max lo s.price), (min hi s.price)) by
              rw [HNX.out]
              unfold bstep
              rw [if_pos HSAME.out]
              simp only [HBU.out, HSM.out, HAL.out]
              simp)
            go_roundw
            case rel => exact ⟨k + 1, _, _, by omega, by go_num, HN, HA3, HC3, HW3⟩
            case measure => simp [intOf]; omega
          · have h2' : decide (cm < 0) = false := decide_eq_false h2
            have HAL : Hid ((q ≠ (s.qty : Rat)) = False) := hid (by simp only [eq_iff_iff, iff_false]; exact fun hh => h2 (by rw [← hcmr]; exact (cmpR_neg HLE.out).2 hh))
            clear h2
            refine wp_region_noPanic ?_
            refine wp_region_held_drew (S := fun Y => Y.cell? ⟨wr.heap.size, 5, none⟩ = some (.int .i64 s.qty) ∧ Y.cell? ⟨wr.heap.size, 7, none⟩ = some (.slice s1 s2 s3) ∧ Y.cell? ⟨wr.heap.size, 8, none⟩ = some (.bool s4) ∧ Y.cell? ⟨wr.heap.size, 9, none⟩ = some (.slice s5 s6 s7) ∧ Y.cell? ⟨wr.heap.size, 10, none⟩ = some (.bool s8)) (by kernel_rfl) (HCV.out _ F1) (fun hHeld => ?_)
            refine wpAnyH_take (i := 0) (v := ?_) rfl (by kernel_rfl) (by kernel_rfl) (by kernel_rfl) (fun _ _ _ h => h) (Or.inl ⟨by rfl, ?_⟩) (by assumption) ?_
            rotate_left
            · intro w hSw
              (try dsimp only at hSw)
              go_simp
              (try with_reducible rfl)
            (try simp only [List.getElem_toArray, List.getElem_cons_zero, List.getElem_cons_succ, Act.put, List.setIfInBounds_toArray, List.set_cons_zero, List.set_cons_succ])
            refine wpAnyH_take (i := 1) (v := ?_) rfl (by kernel_rfl) (by kernel_rfl) (by kernel_rfl) (fun _ _ _ h => h) (Or.inl ⟨by rfl, ?_⟩) (by assumption) ?_
            rotate_left
            · intro w hSw
              (try dsimp only at hSw)
              go_simp
              (try with_reducible rfl)
            (try simp only [List.getElem_toArray, List.getElem_cons_zero, List.getElem_cons_succ, Act.put, List.setIfInBounds_toArray, List.set_cons_zero, List.set_cons_succ])
            refine wpAnyH_take (i := 2) (v := ?_) rfl (by kernel_rfl) (by kernel_rfl) (by kernel_rfl) (fun _ _ _ h => h) (Or.inl ⟨by rfl, ?_⟩) (by assumption) ?_
            rotate_left
            · intro w hSw
              (try dsimp only at hSw)
              go_simp
              (try with_reducible rfl)
            (try simp only [List.getElem_toArray, List.getElem_cons_zero, List.getElem_cons_succ, Act.put, List.setIfInBounds_toArray, List.set_cons_zero, List.set_cons_succ])
            refine wpAnyH_take (i := 3) (v := ?_) rfl (by kernel_rfl) (by kernel_rfl) (by kernel_rfl) (fun _ _ _ h => h) (Or.inl ⟨by rfl, ?_⟩) (by assumption) ?_
            rotate_left
            · intro w hSw
              (try dsimp only at hSw)
              go_simp
              (try with_reducible rfl)
            (try simp only [List.getElem_toArray, List.getElem_cons_zero, List.getElem_cons_succ, Act.put, List.setIfInBounds_toArray, List.set_cons_zero, List.set_cons_succ])
            refine wpAnyH_take (i := 4) (v := ?_) rfl (by kernel_rfl) (by kernel_rfl) (by kernel_rfl) (fun _ _ _ h => h) (Or.inl ⟨by rfl, ?_⟩) (by assumption) ?_
            rotate_left
            · intro w hSw
              (try dsimp only at hSw)
              go_simp
              (try with_reducible rfl)
            (try simp only [List.getElem_toArray, List.getElem_cons_zero, List.getElem_cons_succ, Act.put, List.setIfInBounds_toArray, List.set_cons_zero, List.set_cons_succ])
            refine wpAnyH_ready (rs := [5]) (by kernel_rfl) (by simp) ?_
            refine AllReadyH.cons (o := _) rfl (fun Kc hKc => ?_) AllReadyH.nil
            go_simp
            go_at_call 84
            refine (q_of _ s.qty HQT.out.1 HQT.out.2).mono ?_
            rintro e w' ⟨v1, rfl, nv1, hb⟩
            have F2 := chain2 F1 hb
            replace nv1 := nv1.mono (show 2 ≤ 40 by decide)
            dsimp only
            refine hKc.out _ _ (HCV.out _ F2) (fun hHeld => ?_)
            clear hKc Kc
            (try simp only [List.getElem_toArray, List.getElem_cons_zero, List.getElem_cons_succ, Act.put, List.setIfInBounds_toArray, List.set_cons_zero, List.set_cons_succ])
            refine wpAnyH_ready (rs := [6]) (by kernel_rfl) (by simp) ?_
            refine AllReadyH.cons (o := _) rfl (fun Kc hKc => ?_) AllReadyH.nil
            go_simp
            go_at_call 92
            refine (q_cmp _ _ _ q (s.qty : Rat) 40 (by decide) (HQV.out.below F2) nv1).mono ?_
            rintro e w' ⟨he, hb⟩
            rw [hcmr] at he
            subst he
            have F3 := chain2 F2 hb
            dsimp only
            refine hKc.out _ _ (HCV.out _ F3) (fun hHeld => ?_)
            clear hKc Kc
            (try simp only [List.getElem_toArray, List.getElem_cons_zero, List.getElem_cons_succ, Act.put, List.setIfInBounds_toArray, List.set_cons_zero, List.set_cons_succ])
            refine wpAnyH_take (i := 7) (v := ?_) rfl (by kernel_rfl) (by kernel_rfl) (by kernel_rfl) (fun _ _ _ h => h) (Or.inl ⟨by rfl, ?_⟩) (by assumption) ?_
            rotate_left
            · intro w hSw
              (try dsimp only at hSw)
              go_simp
              (try with_reducible rfl)
            (try simp only [List.getElem_toArray, List.getElem_cons_zero, List.getElem_cons_succ, Act.put, List.setIfInBounds_toArray, List.set_cons_zero, List.set_cons_succ])
            refine wpAnyH_done (by kernel_rfl) ?_ _
            refine NoPanic.normal ?_

            have HA2 : Hid (w'.heap[b9]? = some (.cells #[.int .i64 lo] 3 (0, 0))) := hid ((F3.block b9 (lt_of_block HA1.out)).trans HA1.out)
            have HC2 : Hid (w'.heap[b10]? = some (.cells #[.int .i64 (min hi s.price)] 3 (0, 0))) := hid ((F3.block b10 (lt_of_block HC1.out)).trans HC1.out)
            have HK2 : Hid (Kq (fun k => k = b9 ∨ k = b10) (wr.alloc (Obj.cells #[.string s.who, .int .i64 s.seq, .int .i64 s.zone, .int .i64 s.hour, .bool true, .int .i64 s.qty, .int .i64 s.price, .slice s1 s2 s3, .bool s4, .slice s5 s6 s7, .bool s8] 156)) w') := hid (HK1.out.trans (Kq.of_below F3))
            have HW2 : Hid (Below W0.heap.size W0 w') := hid (HW1.out.trans (F3.mono HW1.out.size))
            have hw6 : w'.cell? ⟨wr.heap.size, 6, none⟩ = some (.int .i64 s.price) := HK2.out.cell u6 HNB.out
            clear hHeld F1 F2 F3 nv1 hb
            go_wp2_with fail
            clear hw6
            have HN := hid (show bndN h z g.low g.high (D.map Prod.fst) Q (k + 1) = (lo, (min hi s.price)) by
              rw [HNX.out]
              unfold bstep
              rw [if_pos HSAME.out]
              simp only [HBU.out, HSM.out, HAL.out]
              simp)
            go_roundw
            case rel => exact ⟨k + 1, _, _, by omega, by go_num, HN, HA2, HC2, HW2⟩
            case measure => simp [intOf]; omega
        · have h1' : decide (0 < sg) = false := decide_eq_false h1
          have HSM : Hid ((0 < q) = False) := hid (by simp only [eq_iff_iff, iff_false]; exact fun hh => h1 (by rw [← hsgr]; exact sgnR_pos.2 hh))
          clear h1
          go_wp2_with fail
          clear hu6
          obtain ⟨Z1, HZ1⟩ : ∃ Z, Z = Y1 := ⟨_, rfl⟩
          have hbz : Below Y1.heap.size Y1 Z1 := by rw [HZ1]; exact Below.refl _ _
          have HA1 : Hid (Z1.heap[b9]? = some (.cells #[.int .i64 lo] 3 (0, 0))) := hid ((hbz.block b9 (lt_of_block HA0.out)).trans HA0.out)
          have HC1 : Hid (Z1.heap[b10]? = some (.cells #[.int .i64 hi] 3 (0, 0))) := hid ((hbz.block b10 (lt_of_block HC0.out)).trans HC0.out)
          have HK1 : Hid (Kq (fun k => k = b9 ∨ k = b10) (wr.alloc (Obj.cells #[.string s.who, .int .i64 s.seq, .int .i64 s.zone, .int .i64 s.hour, .bool true, .int .i64 s.qty, .int .i64 s.price, .slice s1 s2 s3, .bool s4, .slice s5 s6 s7, .bool s8] 156)) Z1) := hid (HK0.out.trans (Kq.of_below hbz))
          have HW1 : Hid (Below W0.heap.size W0 Z1) := hid (HW0.out.trans (hbz.mono HW0.out.size))
          rw [← HZ1] at ⊢
          clear HZ1 hbz
          have F1 : Below Z1.heap.size Z1 Z1.drew := (Below.refl _ _).drew
          have HQV := hid (HQ0.out.below HW1.out)
          have HCV := hid (fun (Y : World) (b : Below Z1.heap.size Z1 Y) => (⟨ikc b (HK1.out.cell u5 HNB.out), ikc b (HK1.out.cell u7 HNB.out), ikc b (HK1.out.cell u8 HNB.out), ikc b (HK1.out.cell u9 HNB.out), ikc b (HK1.out.cell u10 HNB.out)⟩ : Y.cell? ⟨wr.heap.size, 5, none⟩ = some (.int .i64 s.qty) ∧ Y.cell? ⟨wr.heap.size, 7, none⟩ = some (.slice s1 s2 s3) ∧ Y.cell? ⟨wr.heap.size, 8, none⟩ = some (.bool s4) ∧ Y.cell? ⟨wr.heap.size, 9, none⟩ = some (.slice s5 s6 s7) ∧ Y.cell? ⟨wr.heap.size, 10, none⟩ = some (.bool s8)))
          by_cases h2 : cm < 0
          · have h2' : decide (cm < 0) = true := decide_eq_true h2
            have HAL : Hid ((q ≠ (s.qty : Rat)) = True) := hid (by simp only [eq_iff_iff, iff_true]; exact (cmpR_neg HLE.out).1 (by rw [hcmr]; exact h2))
            clear h2
            refine wp_region_noPanic ?_
            refine wp_region_held_drew (S := fun Y => Y.cell? ⟨wr.heap.size, 5, none⟩ = some (.int .i64 s.qty) ∧ Y.cell? ⟨wr.heap.size, 7, none⟩ = some (.slice s1 s2 s3) ∧ Y.cell? ⟨wr.heap.size, 8, none⟩ = some (.bool s4) ∧ Y.cell? ⟨wr.heap.size, 9, none⟩ = some (.slice s5 s6 s7) ∧ Y.cell? ⟨wr.heap.size, 10, none⟩ = some (.bool s8)) (by kernel_rfl) (HCV.out _ F1) (fun hHeld => ?_)
            refine wpAnyH_take (i := 0) (v := ?_) rfl (by kernel_rfl) (by kernel_rfl) (by kernel_rfl) (fun _ _ _ h => h) (Or.inl ⟨by rfl, ?_⟩) (by assumption) ?_
            rotate_left
            · intro w hSw
              (try dsimp only at hSw)
              go_simp
              (try with_reducible rfl)
            (try simp only [List.getElem_toArray, List.getElem_cons_zero, List.getElem_cons_succ, Act.put, List.setIfInBounds_toArray, List.set_cons_zero, List.set_cons_succ])
            refine wpAnyH_take (i := 1) (v := ?_) rfl (by kernel_rfl) (by kernel_rfl) (by kernel_rfl) (fun _ _ _ h => h) (Or.inl ⟨by rfl, ?_⟩) (by assumption) ?_
            rotate_left
            · intro w hSw
              (try dsimp only at hSw)
              go_simp
              (try with_reducible rfl)
            (try simp only [List.getElem_toArray, List.getElem_cons_zero, List.getElem_cons_succ, Act.put, List.setIfInBounds_toArray, List.set_cons_zero, List.set_cons_succ])
            refine wpAnyH_take (i := 2) (v := ?_) rfl (by kernel_rfl) (by kernel_rfl) (by kernel_rfl) (fun _ _ _ h => h) (Or.inl ⟨by rfl, ?_⟩) (by assumption) ?_
            rotate_left
            · intro w hSw
              (try dsimp only at hSw)
              go_simp
              (try with_reducible rfl)
            (try simp only [List.getElem_toArray, List.getElem_cons_zero, List.getElem_cons_succ, Act.put, List.setIfInBounds_toArray, List.set_cons_zero, List.set_cons_succ])
            refine wpAnyH_take (i := 3) (v := ?_) rfl (by kernel_rfl) (by kernel_rfl) (by kernel_rfl) (fun _ _ _ h => h) (Or.inl ⟨by rfl, ?_⟩) (by assumption) ?_
            rotate_left
            · intro w hSw
              (try dsimp only at hSw)
              go_simp
              (try with_reducible rfl)
            (try simp only [List.getElem_toArray, List.getElem_cons_zero, List.getElem_cons_succ, Act.put, List.setIfInBounds_toArray, List.set_cons_zero, List.set_cons_succ])
            refine wpAnyH_take (i := 4) (v := ?_) rfl (by kernel_rfl) (by kernel_rfl) (by kernel_rfl) (fun _ _ _ h => h) (Or.inl ⟨by rfl, ?_⟩) (by assumption) ?_
            rotate_left
            · intro w hSw
              (try dsimp only at hSw)
              go_simp
              (try with_reducible rfl)
            (try simp only [List.getElem_toArray, List.getElem_cons_zero, List.getElem_cons_succ, Act.put, List.setIfInBounds_toArray, List.set_cons_zero, List.set_cons_succ])
            refine wpAnyH_ready (rs := [5]) (by kernel_rfl) (by simp) ?_
            refine AllReadyH.cons (o := _) rfl (fun Kc hKc => ?_) AllReadyH.nil
            go_simp
            go_at_call 84
            refine (q_of _ s.qty HQT.out.1 HQT.out.2).mono ?_
            rintro e w' ⟨v1, rfl, nv1, hb⟩
            have F2 := chain2 F1 hb
            replace nv1 := nv1.mono (show 2 ≤ 40 by decide)
            dsimp only
            refine hKc.out _ _ (HCV.out _ F2) (fun hHeld => ?_)
            clear hKc Kc
            (try simp only [List.getElem_toArray, List.getElem_cons_zero, List.getElem_cons_succ, Act.put, List.setIfInBounds_toArray, List.set_cons_zero, List.set_cons_succ])
            refine wpAnyH_ready (rs := [6]) (by kernel_rfl) (by simp) ?_
            refine AllReadyH.cons (o := _) rfl (fun Kc hKc => ?_) AllReadyH.nil
            go_simp
            go_at_call 92
            refine (q_cmp _ _ _ q (s.qty : Rat) 40 (by decide) (HQV.out.below F2) nv1).mono ?_
            rintro e w' ⟨he, hb⟩
            rw [hcmr] at he
            subst he
            have F3 := chain2 F2 hb
            dsimp only
            refine hKc.out _ _ (HCV.out _ F3) (fun hHeld => ?_)
            clear hKc Kc
            (try simp only [List.getElem_toArray, List.getElem_cons_zero, List.getElem_cons_succ, Act.put, List.setIfInBounds_toArray, List.set_cons_zero, List.set_cons_succ])
            refine wpAnyH_take (i := 7) (v := ?_) rfl (by kernel_rfl) (by kernel_rfl) (by kernel_rfl) (fun _ _ _ h => h) (Or.inl ⟨by rfl, ?_⟩) (by assumption) ?_
            rotate_left
            · intro w hSw
              (try dsimp only at hSw)
              go_simp
              (try with_reducible rfl)
            (try simp only [List.getElem_toArray, List.getElem_cons_zero, List.getElem_cons_succ, Act.put, List.setIfInBounds_toArray, List.set_cons_zero, List.set_cons_succ])
            refine wpAnyH_done (by kernel_rfl) ?_ _
            refine NoPanic.normal ?_

            have HA2 : Hid (w'.heap[b9]? = some (.cells #[.int .i64 lo] 3 (0, 0))) := hid ((F3.block b9 (lt_of_block HA1.out)).trans HA1.out)
            have HC2 : Hid (w'.heap[b10]? = some (.cells #[.int .i64 hi] 3 (0, 0))) := hid ((F3.block b10 (lt_of_block HC1.out)).trans HC1.out)
            have HK2 : Hid (Kq (fun k => k = b9 ∨ k = b10) (wr.alloc (Obj.cells #[.string s.who, .int .i64 s.seq, .int .i64 s.zone, .int .i64 s.hour, .bool true, .int .i64 s.qty, .int .i64 s.price, .slice s1 s2 s3, .bool s4, .slice s5 s6 s7, .bool s8] 156)) w') := hid (HK1.out.trans (Kq.of_below F3))
            have HW2 : Hid (Below W0.heap.size W0 w') := hid (HW1.out.trans (F3.mono HW1.out.size))
            have hw6 : w'.cell? ⟨wr.heap.size, 6, none⟩ = some (.int .i64 s.price) := HK2.out.cell u6 HNB.out
            clear hHeld F1 F2 F3 nv1 hb
            go_wp2_with fail
            refine (atLeast_any w' b9 lo s.price HA2.out).mono ?_
            rintro e Z3 ⟨⟨u, rfl⟩, hZ⟩
            have HA3 : Hid (Z3.heap[b9]? = some (.cells #[.int .i64 (max lo s.price)] 3 (0, 0))) := hid (by rw [hZ]; simpa using set_at (L := [.int .i64 lo]) (k := 0) (v := .int .i64 (max lo s.price)) HA2.out)
            have HC3 : Hid (Z3.heap[b10]? = some (.cells #[.int .i64 hi] 3 (0, 0))) := hid (by rw [hZ, Below.heap_setCell _ ⟨b9, 0, none⟩ _ _ (by have := HGE.out.2.2; exact fun e => this e.symm)]; exact HC2.out)
            have HK3 : Hid (Kq (fun k => k = b9 ∨ k = b10) (wr.alloc (Obj.cells #[.string s.who, .int .i64 s.seq, .int .i64 s.zone, .int .i64 s.hour, .bool true, .int .i64 s.qty, .int .i64 s.price, .slice s1 s2 s3, .bool s4, .slice s5 s6 s7, .bool s8] 156)) Z3) := hid (by rw [hZ]; exact HK2.out.set b9 0 _ (Or.inl (Or.inl rfl)))
            have HW3 : Hid (Below W0.heap.size W0 Z3) := hid (by rw [hZ]; exact HW2.out.setCell (p := ⟨b9, 0, none⟩) HGE.out.1 _)
            clear hZ
            clear hw6
            go_wp2_with fail
            have HN := hid (show bndN h z g.low g.high (D.map Prod.fst) Q (k + 1) = ((max lo s.price), hi) by
              rw [HNX.out]
              unfold bstep
              rw [if_pos HSAME.out]
              simp only [HBU.out, HSM.out, HAL.out]
              simp)
            go_roundw
            case rel => exact ⟨k + 1, _, _, by omega, by go_num, HN, HA3, HC3, HW3⟩
            case measure => simp [intOf]; omega
          · have h2' : decide (cm < 0) = false := decide_eq_false h2
            have HAL : Hid ((q ≠ (s.qty : Rat)) = False) := hid (by simp only [eq_iff_iff, iff_false]; exact fun hh => h2 (by rw [← hcmr]; exact (cmpR_neg HLE.out).2 hh))
            clear h2
            refine wp_region_noPanic ?_
            refine wp_region_held_drew (S := fun Y => Y.cell? ⟨wr.heap.size, 5, none⟩ = some (.int .i64 s.qty) ∧ Y.cell? ⟨wr.heap.size, 7, none⟩ = some (.slice s1 s2 s3) ∧ Y.cell? ⟨wr.heap.size, 8, none⟩ = some (.bool s4) ∧ Y.cell? ⟨wr.heap.size, 9, none⟩ = some (.slice s5 s6 s7) ∧ Y.cell? ⟨wr.heap.size, 10, none⟩ = some (.bool s8)) (by kernel_rfl) (HCV.out _ F1) (fun hHeld => ?_)
            refine wpAnyH_take (i := 0) (v := ?_) rfl (by kernel_rfl) (by kernel_rfl) (by kernel_rfl) (fun _ _ _ h => h) (Or.inl ⟨by rfl, ?_⟩) (by assumption) ?_
            rotate_left
            · intro w hSw
              (try dsimp only at hSw)
              go_simp
              (try with_reducible rfl)
            (try simp only [List.getElem_toArray, List.getElem_cons_zero, List.getElem_cons_succ, Act.put, List.setIfInBounds_toArray, List.set_cons_zero, List.set_cons_succ])
            refine wpAnyH_take (i := 1) (v := ?_) rfl (by kernel_rfl) (by kernel_rfl) (by kernel_rfl) (fun _ _ _ h => h) (Or.inl ⟨by rfl, ?_⟩) (by assumption) ?_
            rotate_left
            · intro w hSw
              (try dsimp only at hSw)
              go_simp
              (try with_reducible rfl)
            (try simp only [List.getElem_toArray, List.getElem_cons_zero, List.getElem_cons_succ, Act.put, List.setIfInBounds_toArray, List.set_cons_zero, List.set_cons_succ])
            refine wpAnyH_take (i := 2) (v := ?_) rfl (by kernel_rfl) (by kernel_rfl) (by kernel_rfl) (fun _ _ _ h => h) (Or.inl ⟨by rfl, ?_⟩) (by assumption) ?_
            rotate_left
            · intro w hSw
              (try dsimp only at hSw)
              go_simp
              (try with_reducible rfl)
            (try simp only [List.getElem_toArray, List.getElem_cons_zero, List.getElem_cons_succ, Act.put, List.setIfInBounds_toArray, List.set_cons_zero, List.set_cons_succ])
            refine wpAnyH_take (i := 3) (v := ?_) rfl (by kernel_rfl) (by kernel_rfl) (by kernel_rfl) (fun _ _ _ h => h) (Or.inl ⟨by rfl, ?_⟩) (by assumption) ?_
            rotate_left
            · intro w hSw
              (try dsimp only at hSw)
              go_simp
              (try with_reducible rfl)
            (try simp only [List.getElem_toArray, List.getElem_cons_zero, List.getElem_cons_succ, Act.put, List.setIfInBounds_toArray, List.set_cons_zero, List.set_cons_succ])
            refine wpAnyH_take (i := 4) (v := ?_) rfl (by kernel_rfl) (by kernel_rfl) (by kernel_rfl) (fun _ _ _ h => h) (Or.inl ⟨by rfl, ?_⟩) (by assumption) ?_
            rotate_left
            · intro w hSw
              (try dsimp only at hSw)
              go_simp
              (try with_reducible rfl)
            (try simp only [List.getElem_toArray, List.getElem_cons_zero, List.getElem_cons_succ, Act.put, List.setIfInBounds_toArray, List.set_cons_zero, List.set_cons_succ])
            refine wpAnyH_ready (rs := [5]) (by kernel_rfl) (by simp) ?_
            refine AllReadyH.cons (o := _) rfl (fun Kc hKc => ?_) AllReadyH.nil
            go_simp
            go_at_call 84
            refine (q_of _ s.qty HQT.out.1 HQT.out.2).mono ?_
            rintro e w' ⟨v1, rfl, nv1, hb⟩
            have F2 := chain2 F1 hb
            replace nv1 := nv1.mono (show 2 ≤ 40 by decide)
            dsimp only
            refine hKc.out _ _ (HCV.out _ F2) (fun hHeld => ?_)
            clear hKc Kc
            (try simp only [List.getElem_toArray, List.getElem_cons_zero, List.getElem_cons_succ, Act.put, List.setIfInBounds_toArray, List.set_cons_zero, List.set_cons_succ])
            refine wpAnyH_ready (rs := [6]) (by kernel_rfl) (by simp) ?_
            refine AllReadyH.cons (o := _) rfl (fun Kc hKc => ?_) AllReadyH.nil
            go_simp
            go_at_call 92
            refine (q_cmp _ _ _ q (s.qty : Rat) 40 (by decide) (HQV.out.below F2) nv1).mono ?_
            rintro e w' ⟨he, hb⟩
            rw [hcmr] at he
            subst he
            have F3 := chain2 F2 hb
            dsimp only
            refine hKc.out _ _ (HCV.out _ F3) (fun hHeld => ?_)
            clear hKc Kc
            (try simp only [List.getElem_toArray, List.getElem_cons_zero, List.getElem_cons_succ, Act.put, List.setIfInBounds_toArray, List.set_cons_zero, List.set_cons_succ])
            refine wpAnyH_take (i := 7) (v := ?_) rfl (by kernel_rfl) (by kernel_rfl) (by kernel_rfl) (fun _ _ _ h => h) (Or.inl ⟨by rfl, ?_⟩) (by assumption) ?_
            rotate_left
            · intro w hSw
              (try dsimp only at hSw)
              go_simp
              (try with_reducible rfl)
            (try simp only [List.getElem_toArray, List.getElem_cons_zero, List.getElem_cons_succ, Act.put, List.setIfInBounds_toArray, List.set_cons_zero, List.set_cons_succ])
            refine wpAnyH_done (by kernel_rfl) ?_ _
            refine NoPanic.normal ?_

            have HA2 : Hid (w'.heap[b9]? = some (.cells #[.int .i64 lo] 3 (0, 0))) := hid ((F3.block b9 (lt_of_block HA1.out)).trans HA1.out)
            have HC2 : Hid (w'.heap[b10]? = some (.cells #[.int .i64 hi] 3 (0, 0))) := hid ((F3.block b10 (lt_of_block HC1.out)).trans HC1.out)
            have HK2 : Hid (Kq (fun k => k = b9 ∨ k = b10) (wr.alloc (Obj.cells #[.string s.who, .int .i64 s.seq, .int .i64 s.zone, .int .i64 s.hour, .bool true, .int .i64 s.qty, .int .i64 s.price, .slice s1 s2 s3, .bool s4, .slice s5 s6 s7, .bool s8] 156)) w') := hid (HK1.out.trans (Kq.of_below F3))
            have HW2 : Hid (Below W0.heap.size W0 w') := hid (HW1.out.trans (F3.mono HW1.out.size))
            have hw6 : w'.cell? ⟨wr.heap.size, 6, none⟩ = some (.int .i64 s.price) := HK2.out.cell u6 HNB.out
            clear hHeld F1 F2 F3 nv1 hb
            go_wp2_with fail
            clear hw6
            have HN := hid (show bndN h z g.low g.high (D.map Prod.fst) Q (k + 1) = (lo, hi) by
              rw [HNX.out]
              unfold bstep
              rw [if_pos HSAME.out]
              simp only [HBU.out, HSM.out, HAL.out]
              simp)
            go_roundw
            case rel => exact ⟨k + 1, _, _, by omega, by go_num, HN, HA2, HC2, HW2⟩
            case measure => simp [intOf]; omega
      | false =>
        go_wp2_with fail
        refine HSI.out.mono ?_
        rintro e Y1 ⟨he, hbs⟩
        rw [hsgr] at he
        subst he
        have HA0 : Hid (Y1.heap[b9]? = some (.cells #[.int .i64 lo] 3 (0, 0))) := hid ((hbs.block b9 (lt_of_block HAm.out)).trans HAm.out)
        have HC0 : Hid (Y1.heap[b10]? = some (.cells #[.int .i64 hi] 3 (0, 0))) := hid ((hbs.block b10 (lt_of_block HCm.out)).trans HCm.out)
        have HK0 : Hid (Kq (fun k => k = b9 ∨ k = b10) (wr.alloc (Obj.cells #[.string s.who, .int .i64 s.seq, .int .i64 s.zone, .int .i64 s.hour, .bool false, .int .i64 s.qty, .int .i64 s.price, .slice s1 s2 s3, .bool s4, .slice s5 s6 s7, .bool s8] 156)) Y1) := hid (HKm.out.trans (Kq.of_below hbs))
        have HW0 : Hid (Below W0.heap.size W0 Y1) := hid (HWm.out.trans (hbs.mono HWm.out.size))
        have hu6 : Y1.cell? ⟨wr.heap.size, 6, none⟩ = some (.int .i64 s.price) := HK0.out.cell u6 HNB.out
        by_cases h1 : 0 < sg
        · have h1' : decide (0 < sg) = true := decide_eq_true h1
          have HSM : Hid ((0 < q) = True) := hid (by simp only [eq_iff_iff, iff_true]; exact sgnR_pos.1 (by rw [hsgr]; exact h1))
          clear h1
          go_wp2_with fail
          refine (atLeast_any Y1 b9 lo s.price HA0.out).mono ?_
          rintro e Z1 ⟨⟨u, rfl⟩, hZ⟩
          have HA1 : Hid (Z1.heap[b9]? = some (.cells #[.int .i64 (max lo s.price)] 3 (0, 0))) := hid (by rw [hZ]; simpa using set_at (L := [.int .i64 lo]) (k := 0) (v := .int .i64 (max lo s.price)) HA0.out)
          have HC1 : Hid (Z1.heap[b10]? = some (.cells #[.int .i64 hi] 3 (0, 0))) := hid (by rw [hZ, Below.heap_setCell _ ⟨b9, 0, none⟩ _ _ (by have := HGE.out.2.2; exact fun e => this e.symm)]; exact HC0.out)
          have HK1 : Hid (Kq (fun k => k = b9 ∨ k = b10) (wr.alloc (Obj.cells #[.string s.who, .int .i64 s.seq, .int .i64 s.zone, .int .i64 s.hour, .bool false, .int .i64 s.qty, .int .i64 s.price, .slice s1 s2 s3, .bool s4, .slice s5 s6 s7, .bool s8] 156)) Z1) := hid (by rw [hZ]; exact HK0.out.set b9 0 _ (Or.inl (Or.inl rfl)))
          have HW1 : Hid (Below W0.heap.size W0 Z1) := hid (by rw [hZ]; exact HW0.out.setCell (p := ⟨b9, 0, none⟩) HGE.out.1 _)
          clear hZ
          clear hu6
          go_wp2_with fail
          have F1 : Below Z1.heap.size Z1 Z1.drew := (Below.refl _ _).drew
          have HQV := hid (HQ0.out.below HW1.out)
          have HCV := hid (fun (Y : World) (b : Below Z1.heap.size Z1 Y) => (⟨ikc b (HK1.out.cell u5 HNB.out), ikc b (HK1.out.cell u7 HNB.out), ikc b (HK1.out.cell u8 HNB.out), ikc b (HK1.out.cell u9 HNB.out), ikc b (HK1.out.cell u10 HNB.out)⟩ : Y.cell? ⟨wr.heap.size, 5, none⟩ = some (.int .i64 s.qty) ∧ Y.cell? ⟨wr.heap.size, 7, none⟩ = some (.slice s1 s2 s3) ∧ Y.cell? ⟨wr.heap.size, 8, none⟩ = some (.bool s4) ∧ Y.cell? ⟨wr.heap.size, 9, none⟩ = some (.slice s5 s6 s7) ∧ Y.cell? ⟨wr.heap.size, 10, none⟩ = some (.bool s8)))
          by_cases h2 : cm < 0
          · have h2' : decide (cm < 0) = true := decide_eq_true h2
            have HAL : Hid ((q ≠ (s.qty : Rat)) = True) := hid (by simp only [eq_iff_iff, iff_true]; exact (cmpR_neg HLE.out).1 (by rw [hcmr]; exact h2))
            clear h2
            refine wp_region_noPanic ?_
            refine wp_region_held_drew (S := fun Y => Y.cell? ⟨wr.heap.size, 5, none⟩ = some (.int .i64 s.qty) ∧ Y.cell? ⟨wr.heap.size, 7, none⟩ = some (.slice s1 s2 s3) ∧ Y.cell? ⟨wr.heap.size, 8, none⟩ = some (.bool s4) ∧ Y.cell? ⟨wr.heap.size, 9, none⟩ = some (.slice s5 s6 s7) ∧ Y.cell? ⟨wr.heap.size, 10, none⟩ = some (.bool s8)) (by kernel_rfl) (HCV.out _ F1) (fun hHeld => ?_)
            refine wpAnyH_take (i := 0) (v := ?_) rfl (by kernel_rfl) (by kernel_rfl) (by kernel_rfl) (fun _ _ _ h => h) (Or.inl ⟨by rfl, ?_⟩) (by assumption) ?_
            rotate_left
            · intro w hSw
              (try dsimp only at hSw)
              go_simp
              (try with_reducible rfl)
            (try simp only [List.getElem_toArray, List.getElem_cons_zero, List.getElem_cons_succ, Act.put, List.setIfInBounds_toArray, List.set_cons_zero, List.set_cons_succ])
            refine wpAnyH_take (i := 1) (v := ?_) rfl (by kernel_rfl) (by kernel_rfl) (by kernel_rfl) (fun _ _ _ h => h) (Or.inl ⟨by rfl, ?_⟩) (by assumption) ?_
            rotate_left
            · intro w hSw
              (try dsimp only at hSw)
              go_simp
              (try with_reducible rfl)
            (try simp only [List.getElem_toArray, List.getElem_cons_zero, List.getElem_cons_succ, Act.put, List.setIfInBounds_toArray, List.set_cons_zero, List.set_cons_succ])
            refine wpAnyH_take (i := 2) (v := ?_) rfl (by kernel_rfl) (by kernel_rfl) (by kernel_rfl) (fun _ _ _ h => h) (Or.inl ⟨by rfl, ?_⟩) (by assumption) ?_
            rotate_left
            · intro w hSw
              (try dsimp only at hSw)
              go_simp
              (try with_reducible rfl)
            (try simp only [List.getElem_toArray, List.getElem_cons_zero, List.getElem_cons_succ, Act.put, List.setIfInBounds_toArray, List.set_cons_zero, List.set_cons_succ])
            refine wpAnyH_take (i := 3) (v := ?_) rfl (by kernel_rfl) (by kernel_rfl) (by kernel_rfl) (fun _ _ _ h => h) (Or.inl ⟨by rfl, ?_⟩) (by assumption) ?_
            rotate_left
            · intro w hSw
              (try dsimp only at hSw)
              go_simp
              (try with_reducible rfl)
            (try simp only [List.getElem_toArray, List.getElem_cons_zero, List.getElem_cons_succ, Act.put, List.setIfInBounds_toArray, List.set_cons_zero, List.set_cons_succ])
            refine wpAnyH_take (i := 4) (v := ?_) rfl (by kernel_rfl) (by kernel_rfl) (by kernel_rfl) (fun _ _ _ h => h) (Or.inl ⟨by rfl, ?_⟩) (by assumption) ?_
            rotate_left
            · intro w hSw
              (try dsimp only at hSw)
              go_simp
              (try with_reducible rfl)
            (try simp only [List.getElem_toArray, List.getElem_cons_zero, List.getElem_cons_succ, Act.put, List.setIfInBounds_toArray, List.set_cons_zero, List.set_cons_succ])
            refine wpAnyH_ready (rs := [5]) (by kernel_rfl) (by simp) ?_
            refine AllReadyH.cons (o := _) rfl (fun Kc hKc => ?_) AllReadyH.nil
            go_simp
            go_at_call 84
            refine (q_of _ s.qty HQT.out.1 HQT.out.2).mono ?_
            rintro e w' ⟨v1, rfl, nv1, hb⟩
            have F2 := chain2 F1 hb
            replace nv1 := nv1.mono (show 2 ≤ 40 by decide)
            dsimp only
            refine hKc.out _ _ (HCV.out _ F2) (fun hHeld => ?_)
            clear hKc Kc
            (try simp only [List.getElem_toArray, List.getElem_cons_zero, List.getElem_cons_succ, Act.put, List.setIfInBounds_toArray, List.set_cons_zero, List.set_cons_succ])
            refine wpAnyH_ready (rs := [6]) (by kernel_rfl) (by simp) ?_
            refine AllReadyH.cons (o := _) rfl (fun Kc hKc => ?_) AllReadyH.nil
            go_simp
            go_at_call 92
            refine (q_cmp _ _ _ q (s.qty : Rat) 40 (by decide) (HQV.out.below F2) nv1).mono ?_
            rintro e w' ⟨he, hb⟩
            rw [hcmr] at he
            subst he
            have F3 := chain2 F2 hb
            dsimp only
            refine hKc.out _ _ (HCV.out _ F3) (fun hHeld => ?_)
            clear hKc Kc
            (try simp only [List.getElem_toArray, List.getElem_cons_zero, List.getElem_cons_succ, Act.put, List.setIfInBounds_toArray, List.set_cons_zero, List.set_cons_succ])
            refine wpAnyH_take (i := 7) (v := ?_) rfl (by kernel_rfl) (by kernel_rfl) (by kernel_rfl) (fun _ _ _ h => h) (Or.inl ⟨by rfl, ?_⟩) (by assumption) ?_
            rotate_left
            · intro w hSw
              (try dsimp only at hSw)
              go_simp
              (try with_reducible rfl)
            (try simp only [List.getElem_toArray, List.getElem_cons_zero, List.getElem_cons_succ, Act.put, List.setIfInBounds_toArray, List.set_cons_zero, List.set_cons_succ])
            refine wpAnyH_done (by kernel_rfl) ?_ _
            refine NoPanic.normal ?_

            have HA2 : Hid (w'.heap[b9]? = some (.cells #[.int .i64 (max lo s.price)] 3 (0, 0))) := hid ((F3.block b9 (lt_of_block HA1.out)).trans HA1.out)
            have HC2 : Hid (w'.heap[b10]? = some (.cells #[.int .i64 hi] 3 (0, 0))) := hid ((F3.block b10 (lt_of_block HC1.out)).trans HC1.out)
            have HK2 : Hid (Kq (fun k => k = b9 ∨ k = b10) (wr.alloc (Obj.cells #[.string s.who, .int .i64 s.seq, .int .i64 s.zone, .int .i64 s.hour, .bool false, .int .i64 s.qty, .int .i64 s.price, .slice s1 s2 s3, .bool s4, .slice s5 s6 s7, .bool s8] 156)) w') := hid (HK1.out.trans (Kq.of_below F3))
            have HW2 : Hid (Below W0.heap.size W0 w') := hid (HW1.out.trans (F3.mono HW1.out.size))
            have hw6 : w'.cell? ⟨wr.heap.size, 6, none⟩ = some (.int .i64 s.price) := HK2.out.cell u6 HNB.out
            clear hHeld F1 F2 F3 nv1 hb
            go_wp2_with fail
            refine (atMost_any w' b10 hi s.price HC2.out).mono ?_
            rintro e Z3 ⟨⟨u, rfl⟩, hZ⟩
            have HC3 : Hid (Z3.heap[b10]? = some (.cells #[.int .i64 (min hi s.price)] 3 (0, 0))) := hid (by rw [hZ]; simpa using set_at (L := [.int .i64 hi]) (k := 0) (v := .int .i64 (min hi s.price)) HC2.out)
            have HA3 : Hid (Z3.heap[b9]? = some (.cells #[.int .i64 (max lo s.price)] 3 (0, 0))) := hid (by rw [hZ, Below.heap_setCell _ ⟨b10, 0, none⟩ _ _ (by have := HGE.out.2.2; exact this)]; exact HA2.out)
            have HK3 : Hid (Kq (fun k => k = b9 ∨ k = b10) (wr.alloc (Obj.cells #[.string s.who, .int .i64 s.seq, .int .i64 s.zone, .int .i64 s.hour, .bool false, .int .i64 s.qty, .int .i64 s.price, .slice s1 s2 s3, .bool s4, .slice s5 s6 s7, .bool s8] 156)) Z3) := hid (by rw [hZ]; exact HK2.out.set b10 0 _ (Or.inl (Or.inr rfl)))
            have HW3 : Hid (Below W0.heap.size W0 Z3) := hid (by rw [hZ]; exact HW2.out.setCell (p := ⟨b10, 0, none⟩) HGE.out.2.1 _)
            clear hZ
            clear hw6
            go_wp2_with fail
            have HN := hid (show bndN h z g.low g.high (D.map Prod.fst) Q (k + 1) = ((max lo s.price), (min hi s.price)) by
              rw [HNX.out]
              unfold bstep
              rw [if_pos HSAME.out]
              simp only [HBU.out, HSM.out, HAL.out]
              simp)
            go_roundw
            case rel => exact ⟨k + 1, _, _, by omega, by go_num, HN, HA3, HC3, HW3⟩
            case measure => simp [intOf]; omega
          · have h2' : decide (cm < 0) = false := decide_eq_false h2
            have HAL : Hid ((q ≠ (s.qty : Rat)) = False) := hid (by simp only [eq_iff_iff, iff_false]; exact fun hh => h2 (by rw [← hcmr]; exact (cmpR_neg HLE.out).2 hh))
            clear h2
            refine wp_region_noPanic ?_
            refine wp_region_held_drew (S := fun Y => Y.cell? ⟨wr.heap.size, 5, none⟩ = some (.int .i64 s.qty) ∧ Y.cell? ⟨wr.heap.size, 7, none⟩ = some (.slice s1 s2 s3) ∧ Y.cell? ⟨wr.heap.size, 8, none⟩ = some (.bool s4) ∧ Y.cell? ⟨wr.heap.size, 9, none⟩ = some (.slice s5 s6 s7) ∧ Y.cell? ⟨wr.heap.size, 10, none⟩ = some (.bool s8)) (by kernel_rfl) (HCV.out _ F1) (fun hHeld => ?_)
            refine wpAnyH_take (i := 0) (v := ?_) rfl (by kernel_rfl) (by kernel_rfl) (by kernel_rfl) (fun _ _ _ h => h) (Or.inl ⟨by rfl, ?_⟩) (by assumption) ?_
            rotate_left
            · intro w hSw
              (try dsimp only at hSw)
              go_simp
              (try with_reducible rfl)
            (try simp only [List.getElem_toArray, List.getElem_cons_zero, List.getElem_cons_succ, Act.put, List.setIfInBounds_toArray, List.set_cons_zero, List.set_cons_succ])
            refine wpAnyH_take (i := 1) (v := ?_) rfl (by kernel_rfl) (by kernel_rfl) (by kernel_rfl) (fun _ _ _ h => h) (Or.inl ⟨by rfl, ?_⟩) (by assumption) ?_
            rotate_left
            · intro w hSw
              (try dsimp only at hSw)
              go_simp
              (try with_reducible rfl)
            (try simp only [List.getElem_toArray, List.getElem_cons_zero, List.getElem_cons_succ, Act.put, List.setIfInBounds_toArray, List.set_cons_zero, List.set_cons_succ])
            refine wpAnyH_take (i := 2) (v := ?_) rfl (by kernel_rfl) (by kernel_rfl) (by kernel_rfl) (fun _ _ _ h => h) (Or.inl ⟨by rfl, ?_⟩) (by assumption) ?_
            rotate_left
            · intro w hSw
              (try dsimp only at hSw)
              go_simp
              (try with_reducible rfl)
            (try simp only [List.getElem_toArray, List.getElem_cons_zero, List.getElem_cons_succ, Act.put, List.setIfInBounds_toArray, List.set_cons_zero, List.set_cons_succ])
            refine wpAnyH_take (i := 3) (v := ?_) rfl (by kernel_rfl) (by kernel_rfl) (by kernel_rfl) (fun _ _ _ h => h) (Or.inl ⟨by rfl, ?_⟩) (by assumption) ?_
            rotate_left
            · intro w hSw
              (try dsimp only at hSw)
              go_simp
              (try with_reducible rfl)
            (try simp only [List.getElem_toArray, List.getElem_cons_zero, List.getElem_cons_succ, Act.put, List.setIfInBounds_toArray, List.set_cons_zero, List.set_cons_succ])
            refine wpAnyH_take (i := 4) (v := ?_) rfl (by kernel_rfl) (by kernel_rfl) (by kernel_rfl) (fun _ _ _ h => h) (Or.inl ⟨by rfl, ?_⟩) (by assumption) ?_
            rotate_left
            · intro w hSw
              (try dsimp only at hSw)
              go_simp
              (try with_reducible rfl)
            (try simp only [List.getElem_toArray, List.getElem_cons_zero, List.getElem_cons_succ, Act.put, List.setIfInBounds_toArray, List.set_cons_zero, List.set_cons_succ])
            refine wpAnyH_ready (rs := [5]) (by kernel_rfl) (by simp) ?_
            refine AllReadyH.cons (o := _) rfl (fun Kc hKc => ?_) AllReadyH.nil
            go_simp
            go_at_call 84
            refine (q_of _ s.qty HQT.out.1 HQT.out.2).mono ?_
            rintro e w' ⟨v1, rfl, nv1, hb⟩
            have F2 := chain2 F1 hb
            replace nv1 := nv1.mono (show 2 ≤ 40 by decide)
            dsimp only
            refine hKc.out _ _ (HCV.out _ F2) (fun hHeld => ?_)
            clear hKc Kc
            (try simp only [List.getElem_toArray, List.getElem_cons_zero, List.getElem_cons_succ, Act.put, List.setIfInBounds_toArray, List.set_cons_zero, List.set_cons_succ])
            refine wpAnyH_ready (rs := [6]) (by kernel_rfl) (by simp) ?_
            refine AllReadyH.cons (o := _) rfl (fun Kc hKc => ?_) AllReadyH.nil
            go_simp
            go_at_call 92
            refine (q_cmp _ _ _ q (s.qty : Rat) 40 (by decide) (HQV.out.below F2) nv1).mono ?_
            rintro e w' ⟨he, hb⟩
            rw [hcmr] at he
            subst he
            have F3 := chain2 F2 hb
            dsimp only
            refine hKc.out _ _ (HCV.out _ F3) (fun hHeld => ?_)
            clear hKc Kc
            (try simp only [List.getElem_toArray, List.getElem_cons_zero, List.getElem_cons_succ, Act.put, List.setIfInBounds_toArray, List.set_cons_zero, List.set_cons_succ])
            refine wpAnyH_take (i := 7) (v := ?_) rfl (by kernel_rfl) (by kernel_rfl) (by kernel_rfl) (fun _ _ _ h => h) (Or.inl ⟨by rfl, ?_⟩) (by assumption) ?_
            rotate_left
            · intro w hSw
              (try dsimp only at hSw)
              go_simp
              (try with_reducible rfl)
            (try simp only [List.getElem_toArray, List.getElem_cons_zero, List.getElem_cons_succ, Act.put, List.setIfInBounds_toArray, List.set_cons_zero, List.set_cons_succ])
            refine wpAnyH_done (by kernel_rfl) ?_ _
            refine NoPanic.normal ?_

            have HA2 : Hid (w'.heap[b9]? = some (.cells #[.int .i64 (max lo s.price)] 3 (0, 0))) := hid ((F3.block b9 (lt_of_block HA1.out)).trans HA1.out)
            have HC2 : Hid (w'.heap[b10]? = some (.cells #[.int .i64 hi] 3 (0, 0))) := hid ((F3.block b10 (lt_of_block HC1.out)).trans HC1.out)
            have HK2 : Hid (Kq (fun k => k = b9 ∨ k = b10) (wr.alloc (Obj.cells #[.string s.who, .int .i64 s.seq, .int .i64 s.zone, .int .i64 s.hour, .bool false, .int .i64 s.qty, .int .i64 s.price, .slice s1 s2 s3, .bool s4, .slice s5 s6 s7, .bool s8] 156)) w') := hid (HK1.out.trans (Kq.of_below F3))
            have HW2 : Hid (Below W0.heap.size W0 w') := hid (HW1.out.trans (F3.mono HW1.out.size))
            have hw6 : w'.cell? ⟨wr.heap.size, 6, none⟩ = some (.int .i64 s.price) := HK2.out.cell u6 HNB.out
            clear hHeld F1 F2 F3 nv1 hb
            go_wp2_with fail
            clear hw6
            have HN := hid (show bndN h z g.low g.high (D.map Prod.fst) Q (k + 1) = ((max lo s.price), hi) by
              rw [HNX.out]
              unfold bstep
              rw [if_pos HSAME.out]
              simp only [HBU.out, HSM.out, HAL.out]
              simp)
            go_roundw
            case rel => exact ⟨k + 1, _, _, by omega, by go_num, HN, HA2, HC2, HW2⟩
            case measure => simp [intOf]; omega
        · have h1' : decide (0 < sg) = false := decide_eq_false h1
          have HSM : Hid ((0 < q) = False) := hid (by simp only [eq_iff_iff, iff_false]; exact fun hh => h1 (by rw [← hsgr]; exact sgnR_pos.2 hh))
          clear h1
          go_wp2_with fail
          clear hu6
          obtain ⟨Z1, HZ1⟩ : ∃ Z, Z = Y1 := ⟨_, rfl⟩
          have hbz : Below Y1.heap.size Y1 Z1 := by rw [HZ1]; exact Below.refl _ _
          have HA1 : Hid (Z1.heap[b9]? = some (.cells #[.int .i64 lo] 3 (0, 0))) := hid ((hbz.block b9 (lt_of_block HA0.out)).trans HA0.out)
          have HC1 : Hid (Z1.heap[b10]? = some (.cells #[.int .i64 hi] 3 (0, 0))) := hid ((hbz.block b10 (lt_of_block HC0.out)).trans HC0.out)
          have HK1 : Hid (Kq (fun k => k = b9 ∨ k = b10) (wr.alloc (Obj.cells #[.string s.who, .int .i64 s.seq, .int .i64 s.zone, .int .i64 s.hour, .bool false, .int .i64 s.qty, .int .i64 s.price, .slice s1 s2 s3, .bool s4, .slice s5 s6 s7, .bool s8] 156)) Z1) := hid (HK0.out.trans (Kq.of_below hbz))
          have HW1 : Hid (Below W0.heap.size W0 Z1) := hid (HW0.out.trans (hbz.mono HW0.out.size))
          rw [← HZ1] at ⊢
          clear HZ1 hbz
          have F1 : Below Z1.heap.size Z1 Z1.drew := (Below.refl _ _).drew
          have HQV := hid (HQ0.out.below HW1.out)
          have HCV := hid (fun (Y : World) (b : Below Z1.heap.size Z1 Y) => (⟨ikc b (HK1.out.cell u5 HNB.out), ikc b (HK1.out.cell u7 HNB.out), ikc b (HK1.out.cell u8 HNB.out), ikc b (HK1.out.cell u9 HNB.out), ikc b (HK1.out.cell u10 HNB.out)⟩ : Y.cell? ⟨wr.heap.size, 5, none⟩ = some (.int .i64 s.qty) ∧ Y.cell? ⟨wr.heap.size, 7, none⟩ = some (.slice s1 s2 s3) ∧ Y.cell? ⟨wr.heap.size, 8, none⟩ = some (.bool s4) ∧ Y.cell? ⟨wr.heap.size, 9, none⟩ = some (.slice s5 s6 s7) ∧ Y.cell? ⟨wr.heap.size, 10, none⟩ = some (.bool s8)))
          by_cases h2 : cm < 0
          · have h2' : decide (cm < 0) = true := decide_eq_true h2
            have HAL : Hid ((q ≠ (s.qty : Rat)) = True) := hid (by simp only [eq_iff_iff, iff_true]; exact (cmpR_neg HLE.out).1 (by rw [hcmr]; exact h2))
            clear h2
            refine wp_region_noPanic ?_
            refine wp_region_held_drew (S := fun Y => Y.cell? ⟨wr.heap.size, 5, none⟩ = some (.int .i64 s.qty) ∧ Y.cell? ⟨wr.heap.size, 7, none⟩ = some (.slice s1 s2 s3) ∧ Y.cell? ⟨wr.heap.size, 8, none⟩ = some (.bool s4) ∧ Y.cell? ⟨wr.heap.size, 9, none⟩ = some (.slice s5 s6 s7) ∧ Y.cell? ⟨wr.heap.size, 10, none⟩ = some (.bool s8)) (by kernel_rfl) (HCV.out _ F1) (fun hHeld => ?_)
            refine wpAnyH_take (i := 0) (v := ?_) rfl (by kernel_rfl) (by kernel_rfl) (by kernel_rfl) (fun _ _ _ h => h) (Or.inl ⟨by rfl, ?_⟩) (by assumption) ?_
            rotate_left
            · intro w hSw
              (try dsimp only at hSw)
              go_simp
              (try with_reducible rfl)
            (try simp only [List.getElem_toArray, List.getElem_cons_zero, List.getElem_cons_succ, Act.put, List.setIfInBounds_toArray, List.set_cons_zero, List.set_cons_succ])
            refine wpAnyH_take (i := 1) (v := ?_) rfl (by kernel_rfl) (by kernel_rfl) (by kernel_rfl) (fun _ _ _ h => h) (Or.inl ⟨by rfl, ?_⟩) (by assumption) ?_
            rotate_left
            · intro w hSw
              (try dsimp only at hSw)
              go_simp
              (try with_reducible rfl)
            (try simp only [List.getElem_toArray, List.getElem_cons_zero, List.getElem_cons_succ, Act.put, List.setIfInBounds_toArray, List.set_cons_zero, List.set_cons_succ])
            refine wpAnyH_take (i := 2) (v := ?_) rfl (by kernel_rfl) (by kernel_rfl) (by kernel_rfl) (fun _ _ _ h => h) (Or.inl ⟨by rfl, ?_⟩) (by assumption) ?_
            rotate_left
            · intro w hSw
              (try dsimp only at hSw)
              go_simp
              (try with_reducible rfl)
            (try simp only [List.getElem_toArray, List.getElem_cons_zero, List.getElem_cons_succ, Act.put, List.setIfInBounds_toArray, List.set_cons_zero, List.set_cons_succ])
            refine wpAnyH_take (i := 3) (v := ?_) rfl (by kernel_rfl) (by kernel_rfl) (by kernel_rfl) (fun _ _ _ h => h) (Or.inl ⟨by rfl, ?_⟩) (by assumption) ?_
            rotate_left
            · intro w hSw
              (try dsimp only at hSw)
              go_simp
              (try with_reducible rfl)
            (try simp only [List.getElem_toArray, List.getElem_cons_zero, List.getElem_cons_succ, Act.put, List.setIfInBounds_toArray, List.set_cons_zero, List.set_cons_succ])
            refine wpAnyH_take (i := 4) (v := ?_) rfl (by kernel_rfl) (by kernel_rfl) (by kernel_rfl) (fun _ _ _ h => h) (Or.inl ⟨by rfl, ?_⟩) (by assumption) ?_
            rotate_left
            · intro w hSw
              (try dsimp only at hSw)
              go_simp
              (try with_reducible rfl)
            (try simp only [List.getElem_toArray, List.getElem_cons_zero, List.getElem_cons_succ, Act.put, List.setIfInBounds_toArray, List.set_cons_zero, List.set_cons_succ])
            refine wpAnyH_ready (rs := [5]) (by kernel_rfl) (by simp) ?_
            refine AllReadyH.cons (o := _) rfl (fun Kc hKc => ?_) AllReadyH.nil
            go_simp
            go_at_call 84
            refine (q_of _ s.qty HQT.out.1 HQT.out.2).mono ?_
            rintro e w' ⟨v1, rfl, nv1, hb⟩
            have F2 := chain2 F1 hb
            replace nv1 := nv1.mono (show 2 ≤ 40 by decide)
            dsimp only
            refine hKc.out _ _ (HCV.out _ F2) (fun hHeld => ?_)
            clear hKc Kc
            (try simp only [List.getElem_toArray, List.getElem_cons_zero, List.getElem_cons_succ, Act.put, List.setIfInBounds_toArray, List.set_cons_zero, List.set_cons_succ])
            refine wpAnyH_ready (rs := [6]) (by kernel_rfl) (by simp) ?_
            refine AllReadyH.cons (o := _) rfl (fun Kc hKc => ?_) AllReadyH.nil
            go_simp
            go_at_call 92
            refine (q_cmp _ _ _ q (s.qty : Rat) 40 (by decide) (HQV.out.below F2) nv1).mono ?_
            rintro e w' ⟨he, hb⟩
            rw [hcmr] at he
            subst he
            have F3 := chain2 F2 hb
            dsimp only
            refine hKc.out _ _ (HCV.out _ F3) (fun hHeld => ?_)
            clear hKc Kc
            (try simp only [List.getElem_toArray, List.getElem_cons_zero, List.getElem_cons_succ, Act.put, List.setIfInBounds_toArray, List.set_cons_zero, List.set_cons_succ])
            refine wpAnyH_take (i := 7) (v := ?_) rfl (by kernel_rfl) (by kernel_rfl) (by kernel_rfl) (fun _ _ _ h => h) (Or.inl ⟨by rfl, ?_⟩) (by assumption) ?_
            rotate_left
            · intro w hSw
              (try dsimp only at hSw)
              go_simp
              (try with_reducible rfl)
            (try simp only [List.getElem_toArray, List.getElem_cons_zero, List.getElem_cons_succ, Act.put, List.setIfInBounds_toArray, List.set_cons_zero, List.set_cons_succ])
            refine wpAnyH_done (by kernel_rfl) ?_ _
            refine NoPanic.normal ?_

            have HA2 : Hid (w'.heap[b9]? = some (.cells #[.int .i64 lo] 3 (0, 0))) := hid ((F3.block b9 (lt_of_block HA1.out)).trans HA1.out)
            have HC2 : Hid (w'.heap[b10]? = some (.cells #[.int .i64 hi] 3 (0, 0))) := hid ((F3.block b10 (lt_of_block HC1.out)).trans HC1.out)
            have HK2 : Hid (Kq (fun k => k = b9 ∨ k = b10) (wr.alloc (Obj.cells #[.string s.who, .int .i64 s.seq, .int .i64 s.zone, .int .i64 s.hour, .bool false, .int .i64 s.qty, .int .i64 s.price, .slice s1 s2 s3, .bool s4, .slice s5 s6 s7, .bool s8] 156)) w') := hid (HK1.out.trans (Kq.of_below F3))
            have HW2 : Hid (Below W0.heap.size W0 w') := hid (HW1.out.trans (F3.mono HW1.out.size))
            have hw6 : w'.cell? ⟨wr.heap.size, 6, none⟩ = some (.int .i64 s.price) := HK2.out.cell u6 HNB.out
            clear hHeld F1 F2 F3 nv1 hb
            go_wp2_with fail
            refine (atMost_any w' b10 hi s.price HC2.out).mono ?_
            rintro e Z3 ⟨⟨u, rfl⟩, hZ⟩
            have HC3 : Hid (Z3.heap[b10]? = some (.cells #[.int .i64 (min hi s.price)] 3 (0, 0))) := hid (by rw [hZ]; simpa using set_at (L := [.int .i64 hi]) (k := 0) (v := .int .i64 (min hi s.price)) HC2.out)
            have HA3 : Hid (Z3.heap[b9]? = some (.cells #[.int .i64 lo] 3 (0, 0))) := hid (by rw [hZ, Below.heap_setCell _ ⟨b10, 0, none⟩ _ _ (by have := HGE.out.2.2; exact this)]; exact HA2.out)
            have HK3 : Hid (Kq (fun k => k = b9 ∨ k = b10) (wr.alloc (Obj.cells #[.string s.who, .int .i64 s.seq, .int .i64 s.zone, .int .i64 s.hour, .bool false, .int .i64 s.qty, .int .i64 s.price, .slice s1 s2 s3, .bool s4, .slice s5 s6 s7, .bool s8] 156)) Z3) := hid (by rw [hZ]; exact HK2.out.set b10 0 _ (Or.inl (Or.inr rfl)))
            have HW3 : Hid (Below W0.heap.size W0 Z3) := hid (by rw [hZ]; exact HW2.out.setCell (p := ⟨b10, 0, none⟩) HGE.out.2.1 _)
            clear hZ
            clear hw6
            go_wp2_with fail
            have HN := hid (show bndN h z g.low g.high (D.map Prod.fst) Q (k + 1) = (lo, (min hi s.price)) by
              rw [HNX.out]
              unfold bstep
              rw [if_pos HSAME.out]
              simp only [HBU.out, HSM.out, HAL.out]
              simp)
            go_roundw
            case rel => exact ⟨k + 1, _, _, by omega, by go_num, HN, HA3, HC3, HW3⟩
            case measure => simp [intOf]; omega
          · have h2' : decide (cm < 0) = false := decide_eq_false h2
            have HAL : Hid ((q ≠ (s.qty : Rat)) = False) := hid (by simp only [eq_iff_iff, iff_false]; exact fun hh => h2 (by rw [← hcmr]; exact (cmpR_neg HLE.out).2 hh))
            clear h2
            refine wp_region_noPanic ?_
            refine wp_region_held_drew (S := fun Y => Y.cell? ⟨wr.heap.size, 5, none⟩ = some (.int .i64 s.qty) ∧ Y.cell? ⟨wr.heap.size, 7, none⟩ = some (.slice s1 s2 s3) ∧ Y.cell? ⟨wr.heap.size, 8, none⟩ = some (.bool s4) ∧ Y.cell? ⟨wr.heap.size, 9, none⟩ = some (.slice s5 s6 s7) ∧ Y.cell? ⟨wr.heap.size, 10, none⟩ = some (.bool s8)) (by kernel_rfl) (HCV.out _ F1) (fun hHeld => ?_)
            refine wpAnyH_take (i := 0) (v := ?_) rfl (by kernel_rfl) (by kernel_rfl) (by kernel_rfl) (fun _ _ _ h => h) (Or.inl ⟨by rfl, ?_⟩) (by assumption) ?_
            rotate_left
            · intro w hSw
              (try dsimp only at hSw)
              go_simp
              (try with_reducible rfl)
            (try simp only [List.getElem_toArray, List.getElem_cons_zero, List.getElem_cons_succ, Act.put, List.setIfInBounds_toArray, List.set_cons_zero, List.set_cons_succ])
            refine wpAnyH_take (i := 1) (v := ?_) rfl (by kernel_rfl) (by kernel_rfl) (by kernel_rfl) (fun _ _ _ h => h) (Or.inl ⟨by rfl, ?_⟩) (by assumption) ?_
            rotate_left
            · intro w hSw
              (try dsimp only at hSw)
              go_simp
              (try with_reducible rfl)
            (try simp only [List.getElem_toArray, List.getElem_cons_zero, List.getElem_cons_succ, Act.put, List.setIfInBounds_toArray, List.set_cons_zero, List.set_cons_succ])
            refine wpAnyH_take (i := 2) (v := ?_) rfl (by kernel_rfl) (by kernel_rfl) (by kernel_rfl) (fun _ _ _ h => h) (Or.inl ⟨by rfl, ?_⟩) (by assumption) ?_
            rotate_left
            · intro w hSw
              (try dsimp only at hSw)
              go_simp
              (try with_reducible rfl)
            (try simp only [List.getElem_toArray, List.getElem_cons_zero, List.getElem_cons_succ, Act.put, List.setIfInBounds_toArray, List.set_cons_zero, List.set_cons_succ])
            refine wpAnyH_take (i := 3) (v := ?_) rfl (by kernel_rfl) (by kernel_rfl) (by kernel_rfl) (fun _ _ _ h => h) (Or.inl ⟨by rfl, ?_⟩) (by assumption) ?_
            rotate_left
            · intro w hSw
              (try dsimp only at hSw)
              go_simp
              (try with_reducible rfl)
            (try simp only [List.getElem_toArray, List.getElem_cons_zero, List.getElem_cons_succ, Act.put, List.setIfInBounds_toArray, List.set_cons_zero, List.set_cons_succ])
            refine wpAnyH_take (i := 4) (v := ?_) rfl (by kernel_rfl) (by kernel_rfl) (by kernel_rfl) (fun _ _ _ h => h) (Or.inl ⟨by rfl, ?_⟩) (by assumption) ?_
            rotate_left
            · intro w hSw
              (try dsimp only at hSw)
              go_simp
              (try with_reducible rfl)
            (try simp only [List.getElem_toArray, List.getElem_cons_zero, List.getElem_cons_succ, Act.put, List.setIfInBounds_toArray, List.set_cons_zero, List.set_cons_succ])
            refine wpAnyH_ready (rs := [5]) (by kernel_rfl) (by simp) ?_
            refine AllReadyH.cons (o := _) rfl (fun Kc hKc => ?_) AllReadyH.nil
            go_simp
            go_at_call 84
            refine (q_of _ s.qty HQT.out.1 HQT.out.2).mono ?_
            rintro e w' ⟨v1, rfl, nv1, hb⟩
            have F2 := chain2 F1 hb
            replace nv1 := nv1.mono (show 2 ≤ 40 by decide)
            dsimp only
            refine hKc.out _ _ (HCV.out _ F2) (fun hHeld => ?_)
            clear hKc Kc
            (try simp only [List.getElem_toArray, List.getElem_cons_zero, List.getElem_cons_succ, Act.put, List.setIfInBounds_toArray, List.set_cons_zero, List.set_cons_succ])
            refine wpAnyH_ready (rs := [6]) (by kernel_rfl) (by simp) ?_
            refine AllReadyH.cons (o := _) rfl (fun Kc hKc => ?_) AllReadyH.nil
            go_simp
            go_at_call 92
            refine (q_cmp _ _ _ q (s.qty : Rat) 40 (by decide) (HQV.out.below F2) nv1).mono ?_
            rintro e w' ⟨he, hb⟩
            rw [hcmr] at he
            subst he
            have F3 := chain2 F2 hb
            dsimp only
            refine hKc.out _ _ (HCV.out _ F3) (fun hHeld => ?_)
            clear hKc Kc
            (try simp only [List.getElem_toArray, List.getElem_cons_zero, List.getElem_cons_succ, Act.put, List.setIfInBounds_toArray, List.set_cons_zero, List.set_cons_succ])
            refine wpAnyH_take (i := 7) (v := ?_) rfl (by kernel_rfl) (by kernel_rfl) (by kernel_rfl) (fun _ _ _ h => h) (Or.inl ⟨by rfl, ?_⟩) (by assumption) ?_
            rotate_left
            · intro w hSw
              (try dsimp only at hSw)
              go_simp
              (try with_reducible rfl)
            (try simp only [List.getElem_toArray, List.getElem_cons_zero, List.getElem_cons_succ, Act.put, List.setIfInBounds_toArray, List.set_cons_zero, List.set_cons_succ])
            refine wpAnyH_done (by kernel_rfl) ?_ _
            refine NoPanic.normal ?_

            have HA2 : Hid (w'.heap[b9]? = some (.cells #[.int .i64 lo] 3 (0, 0))) := hid ((F3.block b9 (lt_of_block HA1.out)).trans HA1.out)
            have HC2 : Hid (w'.heap[b10]? = some (.cells #[.int .i64 hi] 3 (0, 0))) := hid ((F3.block b10 (lt_of_block HC1.out)).trans HC1.out)
            have HK2 : Hid (Kq (fun k => k = b9 ∨ k = b10) (wr.alloc (Obj.cells #[.string s.who, .int .i64 s.seq, .int .i64 s.zone, .int .i64 s.hour, .bool false, .int .i64 s.qty, .int .i64 s.price, .slice s1 s2 s3, .bool s4, .slice s5 s6 s7, .bool s8] 156)) w') := hid (HK1.out.trans (Kq.of_below F3))
            have HW2 : Hid (Below W0.heap.size W0 w') := hid (HW1.out.trans (F3.mono HW1.out.size))
            have hw6 : w'.cell? ⟨wr.heap.size, 6, none⟩ = some (.int .i64 s.price) := HK2.out.cell u6 HNB.out
            clear hHeld F1 F2 F3 nv1 hb
            go_wp2_with fail
            clear hw6
            have HN := hid (show bndN h z g.low g.high (D.map Prod.fst) Q (k + 1) = (lo, hi) by
              rw [HNX.out]
              unfold bstep
              rw [if_pos HSAME.out]
              simp only [HBU.out, HSM.out, HAL.out]
              simp)
            go_roundw
            case rel => exact ⟨k + 1, _, _, by omega, by go_num, HN, HA2, HC2, HW2⟩
            case measure => simp [intOf]; omega
    · obtain rfl : k = D.length := by omega
      have HFB : Hid (Below w.heap.size w wr) := hid (HB0.out.trans (HBW.out.mono HB0.out.size))
      have c9 := cell_at (L := [_]) H9.out 0 _ rfl
      have c10 := cell_at (L := [_]) H10.out 0 _ rfl
      have HFI := hid (show bndE (bndN h z g.low g.high (D.map Prod.fst) Q D.length) = bndE (lo, hi) by rw [HBD.out])
      unfold bndE at HFI
      by_cases hb : hi < lo
      · have hb' : decide (hi < lo) = true := decide_eq_true hb
        have HFJ : Hid (bndE (bndN h z g.low g.high (D.map Prod.fst) Q D.length) = (0, 0, false)) := hid (by unfold bndE; rw [HFI.out, if_pos hb])
        clear hb
        go_wp2_with fail
        go_ret3
        exact ⟨by rw [HFJ.out]; rfl, HFB.out⟩
      · have hb' : decide (hi < lo) = false := decide_eq_false hb
        have HFJ : Hid (bndE (bndN h z g.low g.high (D.map Prod.fst) Q D.length) = (lo, hi, true)) := hid (by unfold bndE; rw [HFI.out, if_neg hb])
        clear hb
        go_wp2_with fail
        go_region
        all_goals (go_wp2_with fail; go_ret3; exact ⟨by rw [HFJ.out]; rfl, HFB.out.drew⟩)
end Go.Proofs.YtcdkoadobdgbhaaGreatDoor
