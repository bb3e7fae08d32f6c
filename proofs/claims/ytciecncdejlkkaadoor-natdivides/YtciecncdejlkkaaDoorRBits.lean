/- The document's Bits. -/
import Derived.Test.YtciecncdejlkkaaDoorRGcd
import Derived.Test.YtciecncdejlkkaaDoorBits
namespace Go.Proofs.YtciecncdejlkkaaDoor
open Go.RowKit
set_option linter.unusedVariables false
set_option maxRecDepth 100000
set_option linter.unusedSimpArgs false

theorem rof_lit (n : Nat) (z : Int) (hz : z = (n : Int)) (hn : n < 18446744073709551616) (w : World) :
    Calls Tryd.prog 61 #[.int .u64 z] w fun e w' => ∃ v, e = .returned v ∧ RefIs w' v n 3 ∧ Below w.heap.size w w' := by
  subst hz; exact rof_any n hn w
theorem bin_shift {m b : Nat} (h : Bin (m / 4294967296) b) (hm : 4294967296 ≤ m) : Bin m (b + 32) := by
  obtain ⟨h1, h2, h3⟩ := h
  have h4 : m / 4294967296 ≠ 0 := by have : 1 ≤ m / 4294967296 := (Nat.le_div_iff_mul_le (by decide)).2 (by omega); omega
  have h5 := h2 h4
  refine ⟨?_, fun _ => ?_, fun h => by omega⟩
  · rw [Nat.pow_add]
    have := Nat.div_add_mod m 4294967296
    have := Nat.mod_lt m (show 0 < 4294967296 by decide)
    have e : (m / 4294967296 + 1) * 2 ^ 32 ≤ 2 ^ b * 2 ^ 32 := Nat.mul_le_mul_right _ h1
    omega
  · rw [Nat.pow_add]
    have := Nat.div_add_mod m 4294967296
    have e : 2 ^ b * 2 ^ 32 ≤ 2 * (m / 4294967296) * 2 ^ 32 := Nat.mul_le_mul_right _ h5
    omega
theorem bin_half {m b : Nat} (h : Bin (m / 2) b) (hm : 0 < m) : Bin m (b + 1) := by
  obtain ⟨h1, h2, h3⟩ := h
  refine ⟨by rw [Nat.pow_succ]; omega, fun _ => ?_, fun h => by omega⟩
  by_cases h0 : m / 2 = 0
  · rw [h3 h0]; simp; omega
  · have := h2 h0; rw [Nat.pow_succ]; omega
set_option maxHeartbeats 2000000 in
theorem rbits_any (w : World) (a : Value) (m K b : Nat) (hK : K ≤ 400000000) (hb2 : b ≤ 1000000000000) (ha : RefIs w a m K) (hb : Bin m b) :
    Calls Tryd.prog 19 #[a] w fun e w' => e = .returned (.int .i64 (b : Int)) ∧ Below w.heap.size w w' := by
  obtain ⟨ao0, la0, ca0, rfl⟩ := ha.form
  have hb1 := (Below.refl w.heap.size w).alloc (Nat.le_refl _) (Obj.cells #[Value.slice ao0 la0 ca0] 29)
  have x1 := box_new w (Obj.cells #[Value.slice ao0 la0 ca0] 29)
  go_enter Tryd.func19, Tryd.ntmps19
  go_wp2
  generalize w.alloc (Obj.cells #[Value.slice ao0 la0 ca0] 29) = W at *
  go_loopg [3] m (fun p nv wr => ∃ (c b' la ca : Nat) (ao : Option Addr), nv = .int .i64 c ∧ Hid (Bin p b' ∧ c + b' = b) ∧ Hid (RefIs wr (.agg #[.slice ao la ca]) p K ∧ wr.heap[w.heap.size]? = some (Obj.cells #[.slice ao la ca] 29) ∧ Below w.heap.size w wr))
  case atStart => exact ⟨0, b, la0, ca0, ao0, rfl, hid ⟨hb, by omega⟩, hid ⟨ha.below hb1, x1, hb1⟩⟩
  case round =>
    obtain ⟨c, b', la, ca, ao, rfl, HB, HM⟩ := hrel
    have t1 := cell_of_one HM.out.2.1
    have hc9 : c ≤ b := by have := HB.out.2; omega
    by_cases h62 : 4611686018427387904 ≤ gk
    · obtain ⟨q, hq⟩ : ∃ q, cmpI gk 4611686018427387904 = q := ⟨_, rfl⟩
      have hq0 : 0 ≤ q := by rw [← hq]; unfold cmpI; repeat' split
                             all_goals omega
      have HQ := hid hq
      clear hq
      go_wp2
      have D0 : Below wr.heap.size wr wr.drew := (Below.refl _ _).drew
      go_region_held3 (fun w' => w'.cell? ⟨w.heap.size, 0, none⟩ = some (.slice ao la ca)) ((first | exact t1 | exact K1 | exact K2)) (first
        | (have gg := D1; go_at_call 17; refine (rcmp_any _ _ _ _ _ K 3 (by omega) (by omega) (HM.out.1.below D1) n1).mono ?_; rintro e w3 ⟨rfl, hb3⟩; have D2 := chain2 D1 hb3; have K2 := kc D2 t1; rw [HQ.out])
        | (have gg := D0; go_at_call 61; refine (rof_lit 4611686018427387904 4611686018427387904 rfl (by omega) _).mono ?_; rintro e w2 ⟨v1, rfl, n1, hb2'⟩; have D1 := chain2 D0 hb2'; have K1 := kc D1 t1))
      have M2 := hid (And.intro (HM.out.1.below D2) (And.intro (box_below D2 HM.out.2.1 (lt_of_block HM.out.2.1)) (chain2 HM.out.2.2 D2)))
      clear D0 D1 D2 K1 K2 n1 hb2' hb3 gg HQ HM t1
      have t1 := cell_of_one M2.out.2.1
      have f1 := free_of_one M2.out.2.1
      obtain ⟨b'', hb''⟩ : ∃ b'', Bin (gk / 4294967296) b'' := ⟨_, bin_ex _⟩
      have hbe : b' = b'' + 32 := Bin_uniq HB.out.1 (bin_shift hb'' (by omega))
      have HB2 := hid (show Bin (gk / 4294967296) b'' ∧ c + 32 + b'' = b from ⟨hb'', by have := HB.out.2; omega⟩)
      have hlt : gk / 4294967296 < gk := Nat.div_lt_self (by omega) (by decide)
      clear hb'' hbe HB
      go_wp2
      have D0 : Below w3.heap.size w3 w3.drew := (Below.refl _ _).drew
      go_region_with (first
        | (have gg := D1; go_at_call 11; refine (rdivmod_any _ _ _ gk 4294967296 K 3 (by omega) (by omega) ?_ n1 (by omega)).mono ?_; exact M2.out.1.below D1; rintro e w5 ⟨⟨vq, vr, rfl, nq, nr⟩, hb5⟩; obtain ⟨p1, l1, c1, rfl⟩ := nq.form; have D2 := chain2 D1 hb5; have y1 := box_below D2 M2.out.2.1 (lt_of_block M2.out.2.1); have u1 := cell_of_one y1; have g1 := free_of_one y1)
        | (go_at_call 61; refine (rof_lit 4294967296 4294967296 rfl (by omega) _).mono ?_; rintro e w4 ⟨v1, rfl, n1, hb4⟩; have D1 := chain2 D0 hb4; have t4 := kc D1 t1))
      all_goals
        have M3 := hid (And.intro (nq.box y1 (by decide) (.slice p1 l1 c1)) (And.intro (one_setCell (u := .slice p1 l1 c1) y1) ((chain2 M2.out.2.2 D2).setCell (p := ⟨w.heap.size, 0, none⟩) (Nat.le_refl _) (.slice p1 l1 c1))))
        clear D0 D1 D2 y1 u1 g1 n1 nq nr hb4 hb5 M2 t1 f1
        try clear t4
        go_wp2
        go_roundg (gk / 4294967296)
        case rel => exact ⟨c + 32, b'', l1, c1, p1, by go_num, HB2, M3⟩
        case measure => exact hlt
    · obtain ⟨q, hq⟩ : ∃ q, cmpI gk 4611686018427387904 = q := ⟨_, rfl⟩
      have hq0 : ¬ 0 ≤ q := by rw [← hq, cmpI_lt (by omega)]; omega
      have HQ := hid hq
      clear hq
      go_wp2
      have D0 : Below wr.heap.size wr wr.drew := (Below.refl _ _).drew
      go_region_held3 (fun w' => w'.cell? ⟨w.heap.size, 0, none⟩ = some (.slice ao la ca)) ((first | exact t1 | exact K1 | exact K2)) (first
        | (have gg := D1; go_at_call 17; refine (rcmp_any _ _ _ _ _ K 3 (by omega) (by omega) (HM.out.1.below D1) n1).mono ?_; rintro e w3 ⟨rfl, hb3⟩; have D2 := chain2 D1 hb3; have K2 := kc D2 t1; rw [HQ.out])
        | (have gg := D0; go_at_call 61; refine (rof_lit 4611686018427387904 4611686018427387904 rfl (by omega) _).mono ?_; rintro e w2 ⟨v1, rfl, n1, hb2'⟩; have D1 := chain2 D0 hb2'; have K1 := kc D1 t1))
      have M2 := hid (And.intro (HM.out.1.below D2) (And.intro (box_below D2 HM.out.2.1 (lt_of_block HM.out.2.1)) (chain2 HM.out.2.2 D2)))
      clear D0 D1 D2 K1 K2 n1 hb2' hb3 gg HQ HM t1
      have t1 := cell_of_one M2.out.2.1
      obtain ⟨L, oL, bL, tL, vL, lL, kL, zL⟩ := M2.out.1.len
      have HW := hid (rword_walk w3 ao la ca L bL (by omega) lL (by rw [vL]; omega) oL)
      rw [vL] at HW
      clear oL bL tL vL lL zL
      go_wp2_with fail
      refine HW.out.mono ?_
      rintro e w4 ⟨rfl, hb4⟩
      have CE := chain2 M2.out.2.2 hb4
      have HB0 := HB
      clear HW M2 t1 hb4
      go_wp2
      go_loopg [3, 4] gk (fun p nv v wx => ∃ (c' b'' : Nat), nv = .int .i64 c' ∧ v = .int .u64 p ∧ p ≤ gk ∧ Hid (Bin p b'' ∧ c' + b'' = b) ∧ wx = w4)
      case atStart => exact ⟨c, b', rfl, rfl, Nat.le_refl _, HB, rfl⟩
      case round =>
        obtain ⟨c', b'', rfl, rfl, hpg, HB3, rfl⟩ := hrel
        have hc9' : c' ≤ b := by have := HB3.out.2; omega
        rcases Nat.eq_zero_or_pos gk with h0 | h0
        · subst h0
          have HE := hid (show c' = b by have h := HB3.out; have := h.1.2.2 rfl; omega)
          go_wp2
          go_ret
          exact ⟨by rw [HE.out]; rfl, CE⟩
        · obtain ⟨b3, hb3⟩ : ∃ b3, Bin (gk / 2) b3 := ⟨_, bin_ex _⟩
          have hbe : b'' = b3 + 1 := Bin_uniq HB3.out.1 (bin_half hb3 h0)
          have HB4 := hid (show Bin (gk / 2) b3 ∧ c' + 1 + b3 = b from ⟨hb3, by have := HB3.out.2; omega⟩)
          have hpos : 0 < (gk : Int) := by omega
          clear hbe hb3
          go_wp2
          go_roundg (gk / 2)
          case rel => exact ⟨c' + 1, b3, by go_num, by go_num, by omega, HB4, rfl⟩
          case measure => omega
end Go.Proofs.YtciecncdejlkkaaDoor
