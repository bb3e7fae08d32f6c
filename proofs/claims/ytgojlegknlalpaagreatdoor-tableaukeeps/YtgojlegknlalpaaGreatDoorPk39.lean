/- UDiv, UClrM. -/
import Derived.Test.YtgojlegknlalpaaGreatDoorZULow
import Derived.Test.YtgojlegknlalpaaGreatDoorPk36
/- tableau: divided. -/
namespace Go.Proofs.YtgojlegknlalpaaGreatDoor
open Go.RowKit
set_option linter.unusedVariables false
set_option maxRecDepth 100000
set_option linter.unusedSimpArgs false

theorem set5_of {W : World} {rz : Nat} {v0 v1 v2 v3 v4 : Value} (hz : W.heap[rz]? = some (.cells #[.slice none 0 0, .slice none 0 0, .bool false, .slice none 0 0, .bool false] 61 (0, 0))) : ((((((W.setCell ⟨rz, 0, none⟩ v0).setCell ⟨rz, 1, none⟩ v1).setCell ⟨rz, 2, none⟩ v2).setCell ⟨rz, 3, none⟩ v3).setCell ⟨rz, 4, none⟩ v4).heap[rz]? = some (.cells #[v0, v1, v2, v3, v4] 61 (0, 0))) ∧ Kty 61 61 W (((((W.setCell ⟨rz, 0, none⟩ v0).setCell ⟨rz, 1, none⟩ v1).setCell ⟨rz, 2, none⟩ v2).setCell ⟨rz, 3, none⟩ v3).setCell ⟨rz, 4, none⟩ v4) ∧ (∀ (w : World), Below w.heap.size w W → w.heap.size ≤ rz → Below w.heap.size w (((((W.setCell ⟨rz, 0, none⟩ v0).setCell ⟨rz, 1, none⟩ v1).setCell ⟨rz, 2, none⟩ v2).setCell ⟨rz, 3, none⟩ v3).setCell ⟨rz, 4, none⟩ v4)) := by
  have w1 := blk_set hz 0 v0
  have w2 := blk_set w1 1 v1
  have w3 := blk_set w2 2 v2
  have w4 := blk_set w3 3 v3
  have w5 := blk_set w4 4 v4
  refine ⟨w5, ⟨fun k hk h1 h2 => ?_⟩, fun w b h => ((((b.setCell (p := ⟨rz, 0, none⟩) h v0).setCell (p := ⟨rz, 1, none⟩) h v1).setCell (p := ⟨rz, 2, none⟩) h v2).setCell (p := ⟨rz, 3, none⟩) h v3).setCell (p := ⟨rz, 4, none⟩) h v4⟩
  have hne : k ≠ rz := fun e => by subst e; exact h1 _ _ hz
  rw [Below.heap_setCell _ ⟨rz, 4, none⟩ _ _ hne, Below.heap_setCell _ ⟨rz, 3, none⟩ _ _ hne, Below.heap_setCell _ ⟨rz, 2, none⟩ _ _ hne, Below.heap_setCell _ ⟨rz, 1, none⟩ _ _ hne, Below.heap_setCell _ ⟨rz, 0, none⟩ _ _ hne]
set_option maxHeartbeats 6400000 in
theorem udivided_any (w : World) (ta : Option Addr) (n tc : Nat) (a1 : Option Addr) (l1 c1 : Nat) (b1 : Bool) (a2 : Option Addr) (l2 c2 : Nat) (b2 : Bool) (T : List Int) (b : Int) (m K : Nat) (hKm : K = m / 9 + 1) (hm : 18 ≤ m) (hK : K ≤ 200000) (h : ULi w (.slice ta n tc) (.slice a1 l1 c1) (.bool b1) (.slice a2 l2 c2) (.bool b2) T b K) (k : Nat) (hk : k < T.length) (hkN : T.length ≤ 192) (hT : ∀ t ∈ T, t.natAbs < 10 ^ m) (hne : T[k] ≠ 0) :
    Calls Tryz.prog 34 #[.agg #[.slice ta n tc, .slice a1 l1 c1, .bool b1, .slice a2 l2 c2, .bool b2], .int .i64 (k : Int)] w fun e w' => (∃ tv p1 p2 p3 p4 p5 p6 p7 p8, e = .returned (.agg #[tv, .slice p1 p2 p3, .bool p4, .slice p5 p6 p7, .bool p8]) ∧ ULi w' tv (.slice p1 p2 p3) (.bool p4) (.slice p5 p6 p7) (.bool p8) (lowT T T[k]) (lowB T T[k]) K) ∧ Below w.heap.size w w' := by
  have hn : n = T.length := by
    obtain ⟨_, _, _, _, _, _, _, _, _, _, e, _⟩ := h.form
    simp only [Value.slice.injEq] at e
    exact e.2.1
  have htc : T.length ≤ tc ∧ tc ≤ 9223372036854775807 := by
    obtain ⟨_, _, _, _, _, _, _, _, _, _, e, _, _, _, _, k1, k2⟩ := h.form
    simp only [Value.slice.injEq] at e
    rw [e.2.2]
    exact ⟨k1, k2⟩
  have b0 := boxed2 (Below.refl w.heap.size w) (Obj.cells #[.slice ta n tc, .slice a1 l1 c1, .bool b1, .slice a2 l2 c2, .bool b2] 61) (Obj.cells #[.slice none 0 0, .slice none 0 0, .bool false, .slice none 0 0, .bool false] 61)
  have x0 := boxed2_first w (Obj.cells #[.slice ta n tc, .slice a1 l1 c1, .bool b1, .slice a2 l2 c2, .bool b2] 61) (Obj.cells #[.slice none 0 0, .slice none 0 0, .bool false, .slice none 0 0, .bool false] 61)
  have hy := boxed2_second w (Obj.cells #[.slice ta n tc, .slice a1 l1 c1, .bool b1, .slice a2 l2 c2, .bool b2] 61) (Obj.cells #[.slice none 0 0, .slice none 0 0, .bool false, .slice none 0 0, .bool false] 61)
  have h' := h.below b0
  obtain ⟨g, c, d1, d2, d3, d4, d5, d6, d7, d8, e, q0, q1, q2, q3, hq⟩ := h'.num k hk
  simp only [Value.slice.injEq] at e
  obtain ⟨rfl, rfl, rfl⟩ := e
  obtain ⟨base, C, hb0, hqb, hls⟩ := h'
  have HLOW := hid (fun (Y : World) (bY : Below ((w.alloc (Obj.cells #[.slice (some ⟨g, 0, none⟩) T.length tc, .slice a1 l1 c1, .bool b1, .slice a2 l2 c2, .bool b2] 61)).alloc (Obj.cells #[.slice none 0 0, .slice none 0 0, .bool false, .slice none 0 0, .bool false] 61)).heap.size ((w.alloc (Obj.cells #[.slice (some ⟨g, 0, none⟩) T.length tc, .slice a1 l1 c1, .bool b1, .slice a2 l2 c2, .bool b2] 61)).alloc (Obj.cells #[.slice none 0 0, .slice none 0 0, .bool false, .slice none 0 0, .bool false] 61)) Y) => ulowest_any Y _ _ _ _ _ _ _ _ _ base C T T[k] m K hKm hm hK hne hkN hT (hT _ (List.getElem_mem hk)) (Ls.below (fun h b => h.below b) hls bY) (hq.below bY))
  obtain ⟨LT, HLT⟩ : ∃ LT, Hid (lowT T T[k] = LT) := ⟨_, hid rfl⟩
  obtain ⟨LB, HLB⟩ : ∃ LB, Hid (lowB T T[k] = LB) := ⟨_, hid rfl⟩
  rw [HLT.out, HLB.out] at HLOW
  simp only [HLT.out, HLB.out]
  have z0 := bxc x0 0 (.slice (some ⟨g, 0, none⟩) T.length tc) rfl
  have z1 := bxc x0 1 (.slice a1 l1 c1) rfl
  have z2 := bxc x0 2 (.bool b1) rfl
  have z3 := bxc x0 3 (.slice a2 l2 c2) rfl
  have z4 := bxc x0 4 (.bool b2) rfl
  have BX3 := hid b0
  clear h x0 hq hqb b0 hb0 hn hls HLT HLB hne hT
  generalize T.length = nn at *
  go_enter Tryz.func34, Tryz.ntmps34
  go_wp2_with fail
  generalize (w.alloc (Obj.cells #[.slice (some ⟨g, 0, none⟩) nn tc, .slice a1 l1 c1, .bool b1, .slice a2 l2 c2, .bool b2] 61)).alloc (Obj.cells #[.slice none 0 0, .slice none 0 0, .bool false, .slice none 0 0, .bool false] 61) = W at *
  have hkI : (0 : Int) ≤ (k : Int) ∧ (k : Int) < (nn : Int) := by omega
  have HYY := hid hy
  clear hy
  first
  | (go_region_with (first
      | (go_at_call 52; refine (HLOW.out _ (by first | exact Below.refl _ _ | exact (Below.refl _ _).drew | exact below_dn (Below.refl _ _) _)).mono ?_; rintro e X4 ⟨⟨tv, g1, g2, g3, g4, g5, g6, g7, g8, rfl, n4⟩, b4⟩; have bX4 : Below W.heap.size W X4 := ⟨b4.os, b4.tape, b4.output, b4.size, b4.block⟩; obtain ⟨ta', tn', tc', rfl⟩ : ∃ ta tl tc, tv = .slice ta tl tc := by { obtain ⟨ta, tc, _, _, _, _, _, _, _, _, e, _⟩ := n4.form; exact ⟨ta, _, tc, e⟩ }; have hy4 := box_below bX4 HYY.out (lt_of_block HYY.out); have y0 := bxc hy4 0 (.slice none 0 0) rfl; have y1 := bxc hy4 1 (.slice none 0 0) rfl; have y2 := bxc hy4 2 (.bool false) rfl; have y3 := bxc hy4 3 (.slice none 0 0) rfl; have y4 := bxc hy4 4 (.bool false) rfl; have fr := fun j => blk_free hy4 j; clear b4)))
  | fail
  all_goals
    have BX4 := hid (chain2 BX3.out bX4)
    obtain ⟨s1, s2, s3⟩ := set5_of (v0 := .slice ta' tn' tc') (v1 := .slice g1 g2 g3) (v2 := .bool g4) (v3 := .slice g5 g6 g7) (v4 := .bool g8) hy4
    have HF := hid s1
    have NQ := hid (n4.kty s2 (by decide) (by decide) (by decide) (by decide))
    have BA := hid (s3 w BX4.out (by omega))
    clear n4 bX4 HYY hy4 s1 s2 s3 BX3 BX4 HLOW q0 q1 q2 q3 z0 z1 z2 z3 z4
    go_wp2
    exact bodyPost_ret (results_cell_row Tryz.results34 _ _ (w.heap.size + 1) _ _ _ _ (by rfl) HF.out Tryz.underlying61 (by rfl) info_tlist) rfl ⟨⟨_, g1, g2, g3, g4, g5, g6, g7, g8, rfl, NQ.out⟩, BA.out⟩
end Go.Proofs.YtgojlegknlalpaaGreatDoor
/- tableau: cleared, plain parts. -/
namespace Go.Proofs.YtgojlegknlalpaaGreatDoor
open Go.RowKit
set_option linter.unusedVariables false
set_option maxRecDepth 100000
set_option linter.unusedSimpArgs false

theorem q_sub (w : World) (a b : Value) (p q : Rat) (K : Nat) (hK : K ≤ 1000000) (ha : QIs w a p K) (hb : QIs w b q K) :
    Calls Tryz.prog 55 #[a, b] w fun e w' => ∃ v, e = .returned v ∧ QIs w' v (p - q) (2 * K + 12) ∧ Below w.heap.size w w' := by
  have h0 := Int.mul_ne_zero (den_ne p) (den_ne q)
  refine (qsub_any w a b _ _ _ _ K hK ha hb h0).mono ?_
  rintro e w' ⟨v, rfl, hv, b⟩
  rw [(low_rat h0).1, (low_rat h0).2, sub_rat] at hv
  exact ⟨v, rfl, hv, b⟩
theorem ULi.mono {w : World} {tv p1 p2 p3 p4 : Value} {T : List Int} {b : Int} {K K' : Nat} (h : ULi w tv p1 p2 p3 p4 T b K) (hk : K ≤ K') : ULi w tv p1 p2 p3 p4 T b K' := by
  obtain ⟨base, C, h1, h2, h3⟩ := h
  exact ⟨base, C, h1, h2.mono hk, Ls.mono (fun h => h.mono hk) h3⟩
/-- Three boxes, one behind another. -/
theorem box3_1 (w : World) (a b c : Obj) : (((w.alloc a).alloc b).alloc c).heap[w.heap.size]? = some a := box_alloc (box_alloc (box_new w a) b) c
theorem box3_2 (w : World) (a b c : Obj) : (((w.alloc a).alloc b).alloc c).heap[w.heap.size + 1]? = some b := by
  have := box_alloc (box_new (w.alloc a) b) c
  simpa using this
theorem box3_3 (w : World) (a b c : Obj) : (((w.alloc a).alloc b).alloc c).heap[w.heap.size + 2]? = some c := by
  have := box_new ((w.alloc a).alloc b) c
  simpa using this
theorem box3_b (w : World) (a b c : Obj) : Below w.heap.size w (((w.alloc a).alloc b).alloc c) := (((Below.refl w.heap.size w).alloc (Nat.le_refl _) a).alloc (by simp) b).alloc (by simp; omega) c
theorem map_take (L : List Int) (k : Nat) (x : Int) (h : L.take (k + 1) = L.take k ++ [x]) : (L.take (k + 1)).map (fun (t : Int) => (t : Rat)) = (L.take k).map (fun (t : Int) => (t : Rat)) ++ [((x : Int) : Rat)] := by rw [h, List.map_append]; rfl
theorem int_sub (t s p n : Int) : ((t : Int) : Rat) * ((s : Int) : Rat) - ((p : Int) : Rat) * ((n : Int) : Rat) = ((t * s - p * n : Int) : Rat) := by rw [Rat.intCast_sub, Rat.intCast_mul, Rat.intCast_mul]
end Go.Proofs.YtgojlegknlalpaaGreatDoor
