/- RatTexts: the law's walk. -/
import Derived.Test.YtpajpfbgmgjnnaaGreatDoorZPSmall
namespace Go.Proofs.YtpajpfbgmgjnnaaGreatDoor
open Go.RowKit
set_option linter.unusedVariables false
set_option maxRecDepth 100000
set_option linter.unusedSimpArgs false
attribute [local go_sem ↓] Go.wp_at_zero Go.wp_at_succ

set_option maxHeartbeats 8000000 in
theorem qtexts_any (s : ByteArray) (z : Int) (hz1 : -9223372036854775808 ≤ z) (hz2 : z < 9223372036854775808) (w : World) (hm : Mx w) (htab : Tab w) :
    Calls Tryz.prog 6 #[.string s, .int .i64 z] w fun e w' => e = .returned (.bool true) ∧ Below w.heap.size w w' := by
  go_enter Tryz.func6, Tryz.ntmps6
  by_cases hs : 256 < s.size
  · go_wp2
    go_ret
    exact ⟨rfl, Below.refl _ _⟩
  go_wp2_with fail
  refine (number3_any s w (by omega) hm htab).mono ?_
  rintro e w1 ⟨⟨a1, l1, c1, d1, a2, l2, c2, d2, a3, l3, c3, d3, a4, l4, c4, d4, bb, rfl, F⟩, b1⟩
  have hx := boxed2_first w1 (Obj.cells #[.slice a1 l1 c1, .bool d1, .slice a2 l2 c2, .bool d2] 30) (Obj.cells #[.bool d3, .slice a3 l3 c3, .bool d4, .slice a4 l4 c4] 37)
  have hy := boxed2_second w1 (Obj.cells #[.slice a1 l1 c1, .bool d1, .slice a2 l2 c2, .bool d2] 30) (Obj.cells #[.bool d3, .slice a3 l3 c3, .bool d4, .slice a4 l4 c4] 37)
  have hB := boxed2 (Below.refl w1.heap.size w1) (Obj.cells #[.slice a1 l1 c1, .bool d1, .slice a2 l2 c2, .bool d2] 30) (Obj.cells #[.bool d3, .slice a3 l3 c3, .bool d4, .slice a4 l4 c4] 37)
  have C1 := chain2 b1 hB
  have T1 := htab.below C1
  have F := fun h => (show ∃ n d, Can s n d ∧ RatIs _ (.agg #[.slice a1 l1 c1, .bool d1, .slice a2 l2 c2, .bool d2]) n d 40 ∧ TRatIs _ (.agg #[.bool d3, .slice a3 l3 c3, .bool d4, .slice a4 l4 c4]) n d 40 from by
    obtain ⟨n, d, g1, g2, g3⟩ := F h
    exact ⟨n, d, g1, (g2.below hB).mono (by omega), (g3.below hB).mono (by omega)⟩)
  clear hB
  go_wp2_with fail
  generalize (w1.alloc (Obj.cells #[.slice a1 l1 c1, .bool d1, .slice a2 l2 c2, .bool d2] 30)).alloc (Obj.cells #[.bool d3, .slice a3 l3 c3, .bool d4, .slice a4 l4 c4] 37) = W1 at *
  generalize w1.heap.size = k1 at *
  refine (qof_any _ z hz1 hz2).mono ?_
  rintro e w2 ⟨v2, rfl, R2, b2⟩
  go_wp2_with fail
  refine (qtext_any _ _ _ _ _ (by omega) R2 (T1.below b2)).mono ?_
  rintro e w3 ⟨⟨t3, rfl, h3⟩, b3⟩
  have D3 := chain2 b2 b3
  go_wp2_with fail
  refine (tof_any _ z hz1 hz2).mono ?_
  rintro e w4 ⟨v4, rfl, R4, b4⟩
  go_wp2_with fail
  refine (ttext_any _ _ _ _ _ (by omega) R4).mono ?_
  rintro e w5 ⟨⟨t5, rfl, h5⟩, b5⟩
  obtain rfl := h5.inj h3
  have D5 := chain2 D3 (chain2 b4 b5)
  have x5 := (D5.block _ (lt_of_block hx)).trans hx
  have y5 := (D5.block _ (lt_of_block hy)).trans hy
  have T5 := T1.below D5
  have C5 := chain2 C1 D5
  clear hx hy D3 b2 b3 b4 b5 h3 h5 R2 R4
  have G := fun h => (show ∃ n d, Can s n d ∧ RatIs w5 (.agg #[.slice a1 l1 c1, .bool d1, .slice a2 l2 c2, .bool d2]) n d 40 ∧ TRatIs w5 (.agg #[.bool d3, .slice a3 l3 c3, .bool d4, .slice a4 l4 c4]) n d 40 from by
    obtain ⟨n, d, g1, g2, g3⟩ := F h
    exact ⟨n, d, g1, g2.below D5, g3.below D5⟩)
  clear F D5 C1 T1
  cases bb
  · clear G
    go_wp2
    go_region
    all_goals
      go_wp2
      go_ret
      exact ⟨rfl, by first | exact C5 | exact C5.drew⟩
  obtain ⟨n, d, hcan, Ra, Rb⟩ := G rfl
  clear G
  obtain ⟨t5, t6, t7, t8⟩ := four_cell x5
  obtain ⟨t9, t10, t11, t12⟩ := four_cell y5
  clear x5 y5
  have HS := hid hcan.tx
  have hd0 : d ≠ 0 := by have := hcan.pos; omega
  have HD0 := hid hd0
  have Na : RNumIs w5 (.agg #[.bool d3, .slice a3 l3 c3]) n 40 := by
    obtain ⟨_, _, _, _, _, _, _, e, k1, _⟩ := Rb
    simp only [Value.agg.injEq, Array.mk.injEq, List.cons.injEq] at e
    rw [e.1, e.2.1]; exact k1
  clear hcan hd0
  have B0 : Below w5.heap.size w5 w5.drew := (Below.refl _ _).drew
  go_wp2
  try simp only [List.append_eq, List.cons_append, List.nil_append]
  go_region_held3 (fun w' => w'.cell? ⟨k1, 0, none⟩ = some (Value.slice a1 l1 c1) ∧ w'.cell? ⟨k1, 1, none⟩ = some (Value.bool d1) ∧ w'.cell? ⟨k1, 2, none⟩ = some (Value.slice a2 l2 c2) ∧ w'.cell? ⟨k1, 3, none⟩ = some (Value.bool d2) ∧ w'.cell? ⟨k1 + 1, 0, none⟩ = some (Value.bool d3) ∧ w'.cell? ⟨k1 + 1, 1, none⟩ = some (Value.slice a3 l3 c3) ∧ w'.cell? ⟨k1 + 1, 2, none⟩ = some (Value.bool d4) ∧ w'.cell? ⟨k1 + 1, 3, none⟩ = some (Value.slice a4 l4 c4)) ((refine keepQ t5 t6 t7 t8 t9 t10 t11 t12 ?_; first | exact B0 | exact B1 | exact B2 | exact B3 | exact B4 | exact B5 | exact B6 | exact B7 | exact B8 | exact B9 | exact B10 | exact B11 | exact B12 | exact B13 | exact B14)) (first
    | (have gk := B13; go_at_call 30; refine (ttext_any _ _ _ _ _ (by omega) n113).mono ?_; rintro e w114 ⟨⟨s114, rfl, h114⟩, hb114⟩; have B14 := chain2 B13 hb114; rw [h114.inj h112])
    | (have gk := B12; go_at_call 36; refine (tneg_any _ _ _ _ 40 (by omega) HD0.out (Rb.below B12)).mono ?_; rintro e w113 ⟨v113, rfl, n113, hb113⟩; have B13 := chain2 B12 hb113)
    | (have gk := B11; go_at_call 26; refine (qtext_any _ _ _ _ _ (by omega) n111 (T5.below B11)).mono ?_; rintro e w112 ⟨⟨s112, rfl, h112⟩, hb112⟩; have B12 := chain2 B11 hb112)
    | (have gk := B10; go_at_call 14; refine (qneg_any _ _ _ _ 40 (by omega) (Ra.below B10)).mono ?_; rintro e w111 ⟨v111, rfl, n111, hb111⟩; have B11 := chain2 B10 hb111)
    | (have gk := B9; go_at_call 35; refine (tsign_any _ _ _ _ 40 (by omega) (Rb.below B9)).mono ?_; rintro e w110 ⟨rfl, hb110⟩; have B10 := chain2 B9 hb110)
    | (have gk := B8; go_at_call 34; refine (qsign_any _ _ _ _ 40 (by omega) (Ra.below B8)).mono ?_; rintro e w109 ⟨rfl, hb109⟩; have B9 := chain2 B8 hb109)
    | (have gk := B7; go_at_call 32; refine (stext_any _ _ _ _ (by omega) n107).mono ?_; rintro e w108 ⟨⟨s108, rfl, h108⟩, hb108⟩; have B8 := chain2 B7 hb108; rw [h108.inj h106])
    | (have gk := B6; go_at_call 33; refine (tden_any _ _ _ _ 40 (by omega) (Rb.below B6)).mono ?_; rintro e w107 ⟨v107, rfl, n107, hb107⟩; have B7 := chain2 B6 hb107)
    | (have gk := B5; go_at_call 31; refine (ntext_any _ _ _ _ (by omega) n105 (T5.below B5)).mono ?_; rintro e w106 ⟨⟨s106, rfl, h106⟩, hb106⟩; have B6 := chain2 B5 hb106)
    | (have gk := B4; go_at_call 23; refine (qden_any _ _ _ _ 40 (by omega) (Ra.below B4)).mono ?_; rintro e w105 ⟨v105, rfl, n105, hb105⟩; have B5 := chain2 B4 hb105)
    | (have gk := B3; go_at_call 32; refine (stext_any _ _ _ 40 (by omega) (Na.below B3)).mono ?_; rintro e w104 ⟨⟨s104, rfl, h104⟩, hb104⟩; have B4 := chain2 B3 hb104; rw [h104.inj h103])
    | (have gk := B2; go_at_call 31; refine (ntext_any _ _ _ _ (by omega) n102 (T5.below B2)).mono ?_; rintro e w103 ⟨⟨s103, rfl, h103⟩, hb103⟩; have B3 := chain2 B2 hb103)
    | (have gk := B1; go_at_call 22; refine (qnum_any _ _ _ _ 40 (by omega) (Ra.below B1)).mono ?_; rintro e w102 ⟨v102, rfl, n102, hb102⟩; have B2 := chain2 B1 hb102)
    | (have gk := B0; go_at_call 26; refine (qtext_any _ _ _ _ 40 (by omega) (Ra.below B0) (T5.below B0)).mono ?_; rintro e w101 ⟨⟨s101, rfl, h101⟩, hb101⟩; have B1 := chain2 B0 hb101; rw [h101.inj HS.out]))
  all_goals
    have g9 := chain2 C5 B14
    clear B0 B1 B2 B3 B4 B5 B6 B7 B8 B9 B10 B11 B12 B13 B14 hb101 hb102 hb103 hb104 hb105 hb106 hb107 hb108 hb109 hb110 hb111 hb112 hb113 hb114
    go_wp2
    go_ret
    exact ⟨rfl, g9⟩
end Go.Proofs.YtpajpfbgmgjnnaaGreatDoor
