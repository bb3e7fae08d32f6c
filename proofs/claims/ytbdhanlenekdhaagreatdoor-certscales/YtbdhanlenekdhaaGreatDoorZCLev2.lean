/- cert: a list of fractions over one denominator. -/
import Derived.Test.YtbdhanlenekdhaaGreatDoorPk34
import Derived.Deep.RegionWith
namespace Go.Proofs.YtbdhanlenekdhaaGreatDoor
open Go.RowKit
set_option linter.unusedVariables false
set_option maxRecDepth 100000
set_option linter.unusedSimpArgs false

set_option maxHeartbeats 12800000 in
theorem levelled_any (w : World) (v : Value) (base : Nat) (C : List (List Value)) (X : List Rat) (hl : X.length ≤ 64) (hX : ∀ x ∈ X, Lt10 700 x) (h : QLs w base v C X 5100) :
    Calls Tryz.prog 62 #[v] w fun e w' => (∃ tv p1 p2 p3 p4 p5 p6 p7 p8, e = .returned (.agg #[tv, .slice p1 p2 p3, .bool p4, .slice p5 p6 p7, .bool p8]) ∧ LIs w' tv (.slice p1 p2 p3) (.bool p4) (.slice p5 p6 p7) (.bool p8) X) ∧ Below w.heap.size w w' := by
  obtain ⟨i0, hi0, hz0, hz1, hz2⟩ := info_parts info_RatZ
  obtain ⟨a, c, rfl, hlc, hcm⟩ := h.slice
  have HH := hid h
  have HX := hid hX
  have HOK := hid (lvl_ok X hX)
  clear h hX
  have b0 := (Below.refl w.heap.size w).alloc (Nat.le_refl _) (Obj.cells #[.slice none 0 0, .slice none 0 0, .bool false, .slice none 0 0, .bool false] 71)
  have z0 := box_new w (Obj.cells #[.slice none 0 0, .slice none 0 0, .bool false, .slice none 0 0, .bool false] 71)
  go_enter Tryz.func62, Tryz.ntmps62
  go_wp2_with fail
  generalize w.alloc (Obj.cells #[.slice none 0 0, .slice none 0 0, .bool false, .slice none 0 0, .bool false] 71) = W0 at *
  refine (q_of W0 1 (by omega) (by omega)).mono ?_
  rintro e X1 ⟨v1, rfl, n1, bX1⟩
  obtain ⟨h1, h2, h3, h4, h5, h6, h7, h8, rfl⟩ := n1.form
  have B1 := chain2 b0 bX1
  have z1 := box_below bX1 z0 (lt_of_block z0)
  have bA := (Below.refl X1.heap.size X1).alloc (Nat.le_refl _) (Obj.cells #[.slice none 0 0, .slice h1 h2 h3, .bool h4, .slice h5 h6 h7, .bool h8] 71)
  have B2 := below_alloc' B1 (Nat.le_refl _) (Obj.cells #[.slice none 0 0, .slice h1 h2 h3, .bool h4, .slice h5 h6 h7, .bool h8] 71)
  have z2 := box_alloc z1 (Obj.cells #[.slice none 0 0, .slice h1 h2 h3, .bool h4, .slice h5 h6 h7, .bool h8] 71)
  have y2 := box_new X1 (Obj.cells #[.slice none 0 0, .slice h1 h2 h3, .bool h4, .slice h5 h6 h7, .bool h8] 71)
  have N2 := hid ((n1.below bA).mono (show 2 ≤ 5100 by omega))
  have hbx : w.heap.size < X1.heap.size := lt_of_block z1
  clear b0 z0 n1 bX1 B1 z1 bA
  go_wp2_with (refine wpList_store_fresh rfl 71 _ _ rfl _ _ _ rfl (by simp) rfl 5 info_clist (by rfl) (by rfl) (by simp [Value.oneCell']) ?_)
  generalize X1.alloc (Obj.cells #[.slice none 0 0, .slice h1 h2 h3, .bool h4, .slice h5 h6 h7, .bool h8] 71) = W2 at *
  generalize X1.heap.size = bx at *
  go_loopw [12] (fun i wr => ∃ (k : Nat) (p1 : Option Addr) (p2 p3 : Nat) (p4 : Bool) (p5 : Option Addr) (p6 p7 : Nat) (p8 : Bool), k ≤ X.length ∧ i = .int .i64 (k : Int) ∧ Hid (wr.heap[bx]? = some (.cells #[.slice none 0 0, .slice p1 p2 p3, .bool p4, .slice p5 p6 p7, .bool p8] 71 (0, 0))) ∧ Hid (wr.heap[w.heap.size]? = some (.cells #[.slice none 0 0, .slice none 0 0, .bool false, .slice none 0 0, .bool false] 71 (0, 0))) ∧ Hid (QIs wr (.agg #[.slice p1 p2 p3, .bool p4, .slice p5 p6 p7, .bool p8]) (lvl (X.take k)) 5100) ∧ Below w.heap.size w wr) (fun i _ => X.length - (intOf i).toNat)
  case atStart => exact ⟨0, h1, h2, h3, h4, h5, h6, h7, h8, Nat.zero_le _, rfl, y2, z2, N2, B2⟩
  case round =>
    clear y2 z2 N2 B2
    obtain ⟨k, p1, p2, p3, p4, p5, p6, p7, p8, hk, rfl, HY, HZ, HN, bw⟩ := hrel
    by_cases hlt : k < X.length
    · skip
      obtain ⟨g, c', x0, x1, x2, x3, e, _, q0, q1, q2, q3, hq⟩ := (Ls.below (fun h b => h.below b) HH.out bw).at k hlt
      simp only [Value.slice.injEq] at e
      obtain ⟨rfl, _, rfl⟩ := e
      obtain ⟨s1, s2, s3, s4, s5, s6, s7, s8, hs⟩ := hq.form
      simp only [Value.agg.injEq, Array.mk.injEq, List.cons.injEq, and_true] at hs
      obtain ⟨rfl, rfl, rfl, rfl⟩ := hs
      have bA := (Below.refl wr.heap.size wr).alloc (Nat.le_refl _) (Obj.cells #[.slice s1 s2 s3, .bool s4, .slice s5 s6 s7, .bool s8] 69)
      have BA := below_alloc' bw (Nat.le_refl _) (Obj.cells #[.slice s1 s2 s3, .bool s4, .slice s5 s6 s7, .bool s8] 69)
      have yA := box_alloc HY.out (Obj.cells #[.slice s1 s2 s3, .bool s4, .slice s5 s6 s7, .bool s8] 69)
      have zA := box_alloc HZ.out (Obj.cells #[.slice s1 s2 s3, .bool s4, .slice s5 s6 s7, .bool s8] 69)
      have nA := box_new wr (Obj.cells #[.slice s1 s2 s3, .bool s4, .slice s5 s6 s7, .bool s8] 69)
      have NA := hid (HN.out.below bA)
      have QA := hid (hq.below bA)
      have HSU := hid (lvl_succ X k hlt)
      have HO1 := hid (HOK.out (k + 1) (by omega))
      rw [HSU.out] at HO1
      clear hq HY HZ HN bA bw
      go_wp2_with (refine wpList_store_fresh rfl 69 _ _ rfl _ _ _ rfl (by simp) rfl 4 info_Rat (by rfl) (by rfl) (by simp [Value.oneCell']) ?_)
      clear q0 q1 q2 q3
      generalize wr.alloc (Obj.cells #[.slice s1 s2 s3, .bool s4, .slice s5 s6 s7, .bool s8] 69) = W3 at *
      generalize wr.heap.size = nb at *
      have m1 := bxc yA 1 (.slice p1 p2 p3) rfl
      have m2 := bxc yA 2 (.bool p4) rfl
      have m3 := bxc yA 3 (.slice p5 p6 p7) rfl
      have m4 := bxc yA 4 (.bool p8) rfl
      obtain ⟨t0, t1, t2, t3⟩ := four_cell nA
      have HYA := hid yA
      have HZA := hid zA
      clear yA zA nA
      go_wp2_with fail
      go_region_with (first
        | (have gk := G2; go_at_call 68; refine (q_mul _ _ _ (lvl (X.take k)) _ 20000 (by omega) ((NA.out.below (by first | exact bX5' | exact below_dn bX5' _ | exact bX5'.drew)).mono (by omega)) ((by first | exact n5 | exact n5.below (Below.refl _ _).drew | exact n5.below (below_dn (Below.refl _ _) _)) : QIs _ _ _ _)).mono ?_; rintro e Y6 ⟨v6, rfl, n6, b6⟩; have bX6' : Below W3.heap.size W3 Y6 := chain2 bX5' ⟨b6.os, b6.tape, b6.output, b6.size, b6.block⟩; obtain ⟨i1, i2, i3, i4, i5, i6, i7, i8, rfl⟩ := n6.form; have y6 := box_below bX6' HYA.out (lt_of_block HYA.out); have o1 := bxc y6 1 (.slice p1 p2 p3) rfl; have o2 := bxc y6 2 (.bool p4) rfl; have o3 := bxc y6 3 (.slice p5 p6 p7) rfl; have o4 := bxc y6 4 (.bool p8) rfl; have fr := fun j => blk_free y6 j; clear b6)
        | (have gk := G1; go_at_call 88; refine (denominator_any _ _ _ 10212 (by omega) (by first | exact n4 | exact n4.below (Below.refl _ _).drew | exact n4.below (below_dn (Below.refl _ _) _))).mono ?_; rintro e Y5 ⟨v5, rfl, n5', b5⟩; have bX5' : Below W3.heap.size W3 Y5 := chain2 bX4' ⟨b5.os, b5.tape, b5.output, b5.size, b5.block⟩; have n5 := n5'.mono (show 10212 + 9 ≤ 20000 by omega); have G2 := bX5'; have y5 := box_below bX5' HYA.out (lt_of_block HYA.out); have l1 := bxc y5 1 (.slice p1 p2 p3) rfl; have l2 := bxc y5 2 (.bool p4) rfl; have l3 := bxc y5 3 (.slice p5 p6 p7) rfl; have l4 := bxc y5 4 (.bool p8) rfl; clear b5 n5' y5)
        | (go_at_call 68; refine (q_mul _ _ _ (lvl (X.take k)) X[k] 5100 (by omega) (NA.out.below (by first | exact Below.refl _ _ | exact (Below.refl _ _).drew | exact below_dn (Below.refl _ _) _)) (QA.out.below (by first | exact Below.refl _ _ | exact (Below.refl _ _).drew | exact below_dn (Below.refl _ _) _))).mono ?_; rintro e Y4 ⟨v4, rfl, n4, b4⟩; have bX4' : Below W3.heap.size W3 Y4 := ⟨b4.os, b4.tape, b4.output, b4.size, b4.block⟩; have G1 := bX4'; have y4 := box_below bX4' HYA.out (lt_of_block HYA.out); have k1 := bxc y4 1 (.slice p1 p2 p3) rfl; have k2 := bxc y4 2 (.bool p4) rfl; have k3 := bxc y4 3 (.slice p5 p6 p7) rfl; have k4 := bxc y4 4 (.bool p8) rfl; clear b4 y4))
      all_goals
        have yS : ((((Y6.setCell ⟨bx, 1, none⟩ (.slice i1 i2 i3)).setCell ⟨bx, 2, none⟩ (.bool i4)).setCell ⟨bx, 3, none⟩ (.slice i5 i6 i7)).setCell ⟨bx, 4, none⟩ (.bool i8)).heap[bx]? = some (.cells #[.slice none 0 0, .slice i1 i2 i3, .bool i4, .slice i5 i6 i7, .bool i8] 71 (0, 0)) := blk_set (blk_set (blk_set (blk_set y6 1 (.slice i1 i2 i3)) 2 (.bool i4)) 3 (.slice i5 i6 i7)) 4 (.bool i8)
        have z6 := box_below bX6' HZA.out (lt_of_block HZA.out)
        have kS := set4_kty (o := 1) (t1 := 69) (t2 := 71) y6 (Or.inr rfl) (.slice i1 i2 i3) (.bool i4) (.slice i5 i6 i7) (.bool i8)
        have zS : ((((Y6.setCell ⟨bx, 1, none⟩ (.slice i1 i2 i3)).setCell ⟨bx, 2, none⟩ (.bool i4)).setCell ⟨bx, 3, none⟩ (.slice i5 i6 i7)).setCell ⟨bx, 4, none⟩ (.bool i8)).heap[w.heap.size]? = some (.cells #[.slice none 0 0, .slice none 0 0, .bool false, .slice none 0 0, .bool false] 71 (0, 0)) := by
          have hne : w.heap.size ≠ bx := by omega
          rw [Below.heap_setCell _ ⟨bx, 4, none⟩ _ _ hne, Below.heap_setCell _ ⟨bx, 3, none⟩ _ _ hne, Below.heap_setCell _ ⟨bx, 2, none⟩ _ _ hne, Below.heap_setCell _ ⟨bx, 1, none⟩ _ _ hne]
          exact z6
        have NS := (lv_fit n6 HO1.out (by omega)).kty kS (by decide) (by decide)
        rw [← HSU.out] at NS
        have BS := set4_below (o := 1) (BA.trans (bX6'.mono BA.size)) (show w.heap.size ≤ bx by omega) (.slice i1 i2 i3) (.bool i4) (.slice i5 i6 i7) (.bool i8)
        have HYS := hid yS
        have HZS := hid zS
        have HNS := hid NS
        clear yS zS NS z6 kS n6 n5 n4 y6 o1 o2 o3 o4 fr
        go_wp2
        go_roundw
        case rel => exact ⟨k + 1, i1, i2, i3, i4, i5, i6, i7, i8, by omega, by go_num, HYS, HZS, HNS, BS⟩
        case measure => simp [intOf]; omega
    · obtain rfl : k = X.length := by omega
      rw [List.take_length] at HN
      have HOKm := hid (HOK.out X.length (Nat.le_refl _))
      rw [List.take_length] at HOKm
      generalize lvl X = m at *
      clear HOK
      have N0 : QLs wr w.heap.size (.slice none 0 0) [] ((X.take 0).map (fun x => x * m)) 5100 := Ls.none wr _
      have HN0 := hid N0
      clear N0
      go_wp2
      generalize wr = W2' at *
      go_loopw [28] (fun i wr => ∃ (k : Nat) (ta : Option Addr) (tn tc : Nat) (C' : List (List Value)), k ≤ X.length ∧ i = .int .i64 (k : Int) ∧ Hid (wr.heap[bx]? = some (.cells #[.slice ta tn tc, .slice p1 p2 p3, .bool p4, .slice p5 p6 p7, .bool p8] 71 (0, 0))) ∧ Hid (wr.heap[w.heap.size]? = some (.cells #[.slice none 0 0, .slice none 0 0, .bool false, .slice none 0 0, .bool false] 71 (0, 0))) ∧ Hid (QIs wr (.agg #[.slice p1 p2 p3, .bool p4, .slice p5 p6 p7, .bool p8]) m 5100) ∧ Hid (QLs wr w.heap.size (.slice ta tn tc) C' ((X.take k).map (fun x => x * m)) 5100) ∧ Below w.heap.size w wr) (fun i _ => X.length - (intOf i).toNat)
      case atStart => exact ⟨0, none, 0, 0, [], Nat.zero_le _, rfl, HY, HZ, HN, HN0, bw⟩
      case round =>
        obtain ⟨k, ta, tn, tc, C', hk, rfl, HY, HZ, HN, HL, bw⟩ := hrel
        by_cases hlt : k < X.length
        · skip
          obtain ⟨g, c', x0, x1, x2, x3, e, _, q0, q1, q2, q3, hq⟩ := (Ls.below (fun h b => h.below b) HH.out bw).at k hlt
          simp only [Value.slice.injEq] at e
          obtain ⟨rfl, _, rfl⟩ := e
          obtain ⟨s1, s2, s3, s4, s5, s6, s7, s8, hs⟩ := hq.form
          simp only [Value.agg.injEq, Array.mk.injEq, List.cons.injEq, and_true] at hs
          obtain ⟨rfl, rfl, rfl, rfl⟩ := hs
          have bA := (Below.refl wr.heap.size wr).alloc (Nat.le_refl _) (Obj.cells #[.slice s1 s2 s3, .bool s4, .slice s5 s6 s7, .bool s8] 69)
          have BA := below_alloc' bw (Nat.le_refl _) (Obj.cells #[.slice s1 s2 s3, .bool s4, .slice s5 s6 s7, .bool s8] 69)
          have yA := box_alloc HY.out (Obj.cells #[.slice s1 s2 s3, .bool s4, .slice s5 s6 s7, .bool s8] 69)
          have zA := box_alloc HZ.out (Obj.cells #[.slice s1 s2 s3, .bool s4, .slice s5 s6 s7, .bool s8] 69)
          have nA := box_new wr (Obj.cells #[.slice s1 s2 s3, .bool s4, .slice s5 s6 s7, .bool s8] 69)
          have NA := hid (HN.out.below bA)
          have QA := hid (hq.below bA)
          have LA := hid (Ls.below (fun h b => h.below b) HL.out bA)
          have HSU := hid (map_succ X m k hlt)
          have hxk := HX.out _ (List.getElem_mem hlt)
          have HXK := hid hxk
          have hln : tn = k := by
            obtain ⟨_, _, e, _⟩ := HL.out.slice
            simp only [Value.slice.injEq, List.length_map, List.length_take] at e
            omega
          subst hln
          clear hq HY HZ HN HL bA bw hxk
          go_wp2_with (refine wpList_store_fresh rfl 69 _ _ rfl _ _ _ rfl (by simp) rfl 4 info_Rat (by rfl) (by rfl) (by simp [Value.oneCell']) ?_)
          clear q0 q1 q2 q3
          generalize wr.alloc (Obj.cells #[.slice s1 s2 s3, .bool s4, .slice s5 s6 s7, .bool s8] 69) = W3 at *
          generalize wr.heap.size = nb at *
          have m0 := bxc yA 0 (.slice ta tn tc) rfl
          have m1 := bxc yA 1 (.slice p1 p2 p3) rfl
          have m2 := bxc yA 2 (.bool p4) rfl
          have m3 := bxc yA 3 (.slice p5 p6 p7) rfl
          have m4 := bxc yA 4 (.bool p8) rfl
          obtain ⟨t0, t1, t2, t3⟩ := four_cell nA
          have HYA := hid yA
          have HZA := hid zA
          have hX0 : ((X.take tn).map (fun x => x * m)).length = tn := by simp; omega
          have HXL := hid hX0
          clear yA zA nA hX0
          go_wp2_with fail
          go_region_law (first
            | (refine step_append_at rfl _ _ 62 rfl w.heap.size 69 i0 (.agg #[.slice none 0 0, .bool false, .slice none 0 0, .bool false]) 4 64 Tryz.underlying62 hi0 hz0 hz1 hz2 rfl (by decide) (.slice ta tn tc) tn _ rfl (by have := (Ls.below (fun h b => h.below b) LA.out bX4').own.alloc (.cells #[.slice i1 i2 i3, .bool i4, .slice i5 i6 i7, .bool i8] 69); rw [HXL.out] at this; exact this) ⟨Y4.heap.size, 0, none⟩ 1 1 [.slice i1 i2 i3, .bool i4, .slice i5 i6 i7, .bool i8] rfl rfl (four_new _ _ _ _ _ _) (by intro u hu; simp at hu; rcases hu with rfl | rfl | rfl | rfl <;> rfl) (by unfold maxLen; omega) (by omega) (by simp; have := bX4'.size; have := BA.size; omega) ?_; intro v' Y5 o5 hg5 hat5; have bA4 := (Below.refl Y4.heap.size Y4).alloc (Nat.le_refl _) (Obj.cells #[.slice i1 i2 i3, .bool i4, .slice i5 i6 i7, .bool i8] 69); have bX4a := chain2 bX4' bA4; have la := Ls.below (fun h b => h.below b) LA.out bX4a; have ya := box_below bX4a HYA.out (lt_of_block HYA.out); have y5 := (hg5.block bx (lt_of_block ya) (fun e => own_ne_ty la.own ya (by decide) e.symm)).trans ya; have o0 := bxc y5 0 (.slice ta tn tc) rfl; have fr := blk_free y5 0; obtain ⟨ta', tc', rfl⟩ := own_form4 o5)
            | (go_simp; go_at_call 68; refine (q_mul _ _ _ X[tn] m 5100 (by omega) (QA.out.below (by first | exact Below.refl _ _ | exact (Below.refl _ _).drew | exact below_dn (Below.refl _ _) _)) (NA.out.below (by first | exact Below.refl _ _ | exact (Below.refl _ _).drew | exact below_dn (Below.refl _ _) _))).mono ?_; rintro e Y4 ⟨v4, rfl, n4, b4⟩; have bX4' : Below W3.heap.size W3 Y4 := ⟨b4.os, b4.tape, b4.output, b4.size, b4.block⟩; have G1 := bX4'; obtain ⟨i1, i2, i3, i4, i5, i6, i7, i8, rfl⟩ := n4.form; have N4 := hid (top_fit n4 HXK.out HOKm.out hl); have y4 := box_below bX4' HYA.out (lt_of_block HYA.out); have k0 := bxc y4 0 (.slice ta tn tc) rfl; have j0 := bxc (box_alloc y4 (Obj.cells #[.slice i1 i2 i3, .bool i4, .slice i5 i6 i7, .bool i8] 69)) 0 (.slice ta tn tc) rfl; have k1 := bxc y4 1 (.slice p1 p2 p3) rfl; have k2 := bxc y4 2 (.bool p4) rfl; have k3 := bxc y4 3 (.slice p5 p6 p7) rfl; have k4 := bxc y4 4 (.bool p8) rfl; clear b4 y4 n4; dsimp only))
          all_goals
            have yS := blk_set y5 0 (.slice ta' (tn + 1) tc')
            have za := box_below bX4a HZA.out (lt_of_block HZA.out)
            have z5 := (hg5.block w.heap.size (lt_of_block za) (fun e => own_ne_ty la.own za (by decide) e.symm)).trans za
            have zS : (Y5.setCell ⟨bx, 0, none⟩ (.slice ta' (tn + 1) tc')).heap[w.heap.size]? = some (.cells #[.slice none 0 0, .slice none 0 0, .bool false, .slice none 0 0, .bool false] 71 (0, 0)) := (Below.heap_setCell Y5 ⟨bx, 0, none⟩ _ w.heap.size (show w.heap.size ≠ bx by omega)).trans z5
            have kg : Kty 69 71 (Y4.alloc (.cells #[.slice i1 i2 i3, .bool i4, .slice i5 i6 i7, .bool i8] 69)) Y5 := Kty.of_grown hg5 (fun g hg => own_ty la.own g hg)
            have ks := Kty.of_set (t1 := 69) (t2 := 71) (i := 0) y5 (Or.inr rfl) (.slice ta' (tn + 1) tc')
            have NS := ((NA.out.below bX4a).kty kg (by decide) (by decide)).kty ks (by decide) (by decide)
            have hpush := Ls.push la (w' := Y5) (v' := .slice ta' (tn + 1) tc') (x0 := .slice i1 i2 i3) (x1 := .bool i4) (x2 := .slice i5 i6 i7) (x3 := .bool i8) (q := X[tn] * m) (by rw [HXL.out]; exact o5) (fun h => QIs.kty h kg (by decide) (by decide)) (N4.out.below bA4)
            rw [← HSU.out] at hpush
            have LS := QLs.set (i := 0) hpush y5 (.slice ta' (tn + 1) tc')
            have B5 := (BA.trans (bX4a.mono BA.size)).grown hg5 (Nat.le_trans BA.size bX4a.size) (fun g hg => (la.own.lt g hg).1)
            have BS := B5.setCell (p := ⟨bx, 0, none⟩) (show w.heap.size ≤ bx by omega) (.slice ta' (tn + 1) tc')
            have HYS := hid yS
            have HZS := hid zS
            have HNS := hid NS
            have HLS := hid LS
            clear yS zS NS LS za z5 kg ks hpush la ya y5 o0 fr o5 hg5 hat5 B5 bA4 bX4a
            go_wp2
            go_roundw
            case rel => exact ⟨tn + 1, ta', tn + 1, tc', _, by omega, by go_num, HYS, HZS, HNS, HLS, BS⟩
            case measure => simp [intOf]; omega
        · obtain rfl : k = X.length := by omega
          rw [List.take_length] at HL
          have y0 := bxc HY.out 0 (.slice ta tn tc) rfl
          have y1 := bxc HY.out 1 (.slice p1 p2 p3) rfl
          have y2 := bxc HY.out 2 (.bool p4) rfl
          have y3 := bxc HY.out 3 (.slice p5 p6 p7) rfl
          have y4 := bxc HY.out 4 (.bool p8) rfl
          have z0 := bxc HZ.out 0 (.slice none 0 0) rfl
          have z1 := bxc HZ.out 1 (.slice none 0 0) rfl
          have z2 := bxc HZ.out 2 (.bool false) rfl
          have z3 := bxc HZ.out 3 (.slice none 0 0) rfl
          have z4 := bxc HZ.out 4 (.bool false) rfl
          have fr := fun j => blk_free HZ.out j
          have w1 := blk_set HZ.out 0 (.slice ta tn tc)
          have w2 := blk_set w1 1 (.slice p1 p2 p3)
          have w3 := blk_set w2 2 (.bool p4)
          have w4 := blk_set w3 3 (.slice p5 p6 p7)
          have w5 := blk_set w4 4 (.bool p8)
          have L5 := QLs.set (i := 4) (QLs.set (i := 3) (QLs.set (i := 2) (QLs.set (i := 1) (QLs.set (i := 0) HL.out HZ.out (.slice ta tn tc)) w1 (.slice p1 p2 p3)) w2 (.bool p4)) w3 (.slice p5 p6 p7)) w4 (.bool p8)
          have N1 := HN.out.kty (Kty.of_set (t1 := 69) (t2 := 71) (i := 0) HZ.out (Or.inr rfl) (.slice ta tn tc)) (by decide) (by decide)
          have N2 := N1.kty (Kty.of_set (t1 := 69) (t2 := 71) (i := 1) w1 (Or.inr rfl) (.slice p1 p2 p3)) (by decide) (by decide)
          have N3 := N2.kty (Kty.of_set (t1 := 69) (t2 := 71) (i := 2) w2 (Or.inr rfl) (.bool p4)) (by decide) (by decide)
          have N4 := N3.kty (Kty.of_set (t1 := 69) (t2 := 71) (i := 3) w3 (Or.inr rfl) (.slice p5 p6 p7)) (by decide) (by decide)
          have N5 := N4.kty (Kty.of_set (t1 := 69) (t2 := 71) (i := 4) w4 (Or.inr rfl) (.bool p8)) (by decide) (by decide)
          have B5 := ((((bw.setCell (p := ⟨w.heap.size, 0, none⟩) (Nat.le_refl _) (.slice ta tn tc)).setCell (p := ⟨w.heap.size, 1, none⟩) (Nat.le_refl _) (.slice p1 p2 p3)).setCell (p := ⟨w.heap.size, 2, none⟩) (Nat.le_refl _) (.bool p4)).setCell (p := ⟨w.heap.size, 3, none⟩) (Nat.le_refl _) (.slice p5 p6 p7)).setCell (p := ⟨w.heap.size, 4, none⟩) (Nat.le_refl _) (.bool p8)
          have HF := hid w5
          have HLI := hid (show LIs _ (.slice ta tn tc) (.slice p1 p2 p3) (.bool p4) (.slice p5 p6 p7) (.bool p8) X from ⟨m, w.heap.size, C', HOKm.out.pos, HOKm.out.lt.mono (by omega), hl, HX.out, N5, L5⟩)
          have HB5 := hid B5
          clear w1 w2 w3 w4 w5 L5 N1 N2 N3 N4 N5 B5
          go_wp2
          exact bodyPost_ret (results_cell_row Tryz.results62 _ _ w.heap.size _ _ _ _ (by rfl) HF.out Tryz.underlying71 (by rfl) info_clist) rfl ⟨⟨_, p1, p2, p3, p4, p5, p6, p7, p8, rfl, HLI.out⟩, HB5.out⟩
end Go.Proofs.YtbdhanlenekdhaaGreatDoor
