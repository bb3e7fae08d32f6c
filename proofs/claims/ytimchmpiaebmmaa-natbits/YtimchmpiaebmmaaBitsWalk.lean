/- NatBits: what the call answers. -/
import Derived.Test.YtimchmpiaebmmaaLaws
import Derived.Test.YtimchmpiaebmmaaAdd
import Derived.Test.YtimchmpiaebmmaaMul
import Derived.Test.YtimchmpiaebmmaaOf
import Derived.Test.YtimchmpiaebmmaaBits
namespace Go.Proofs.Ytimchmpiaebmmaa
open Go.RowKit
set_option linter.unusedVariables false
set_option linter.unusedSimpArgs false
attribute [local go_sem ↓] Go.wp_at_zero Go.wp_at_succ

theorem num_pos {x : ByteArray} (h : Txt x) (hz : (x.toList == [48]) = false) : 0 < num x := by
  rcases Nat.eq_zero_or_pos (num x) with h0 | h0
  · exfalso
    have ht : Txt ⟨#[48]⟩ := by
      refine ⟨by decide, by decide, fun k hk => ?_⟩
      obtain rfl : k = 0 := by have : (⟨#[48]⟩ : ByteArray).size = 1 := rfl; omega
      decide
    have e : x = ⟨#[48]⟩ := num_inj h ht (by rw [h0]; decide)
    rw [e, ByteArray.toList_eq] at hz
    simp at hz
  · exact h0
theorem num_zero {x : ByteArray} (hz : (x.toList == [48]) = true) : num x = 0 := by
  have e : x = ⟨#[48]⟩ := tl_inj (by rw [eq_of_beq hz, ByteArray.toList_eq])
  rw [e]; decide
theorem pow_ten (n : Nat) : 10 ^ n ≤ 2 ^ (4 * n) := by rw [Nat.pow_mul]; exact Nat.pow_le_pow_left (by decide) n
def m_low (a b : Nat) : Prop := a ≤ b
theorem cmpI_le {a b : Nat} (h : m_low a b) : cmpI a b ≤ 0 := by
  unfold m_low at h
  unfold cmpI; repeat' split
  all_goals omega
theorem bin_twice {m b : Nat} (h : Bin m b) (hm : 0 < m) : Bin (m + m) (b + 1) := by
  obtain ⟨h1, h2, h3⟩ := h
  have := h2 (by omega)
  refine ⟨by rw [Nat.pow_succ]; omega, fun _ => by rw [Nat.pow_succ]; omega, fun h => by omega⟩
theorem bin_pow (b : Nat) (hb : 1 ≤ b) : Bin (2 ^ (b - 1)) b := by
  have e : 2 ^ b = 2 ^ (b - 1) * 2 := by rw [← Nat.pow_succ]; congr 1; omega
  have p := Nat.two_pow_pos (b - 1)
  exact ⟨by omega, fun _ => by omega, fun h => by omega⟩
set_option maxRecDepth 100000 in
set_option maxHeartbeats 2000000 in
theorem bits_law (x : ByteArray) (w : World) (hx0 : x.size ≤ maxLen) :
    Calls Try.prog 3 #[.string x] w fun e w' => e = .returned (.bool true) ∧ Below w.heap.size w w' := by
  unfold maxLen at hx0
  by_cases hx : x.size ≤ 1024
  case neg =>
    have hx' : ¬ (x.size : Int) ≤ 1024 := by omega
    go_enter Try.func3, Try.ntmps3
    go_wp2
    go_ret
    exact ⟨rfl, Below.refl _ _⟩
  clear hx0
  go_enter Try.func3, Try.ntmps3
  go_wp2_with fail
  refine (number_any x _ (by omega)).mono ?_
  rintro e u1 ⟨⟨aa, la, ca, ar1, lr1, cr1, b1, rfl, f1⟩, hb1⟩
  have c1 := boxed2 hb1 (Obj.cells #[Value.slice aa la ca] 24) (Obj.cells #[Value.slice ar1 lr1 cr1] 27)
  have d1 := boxed2 (Below.refl u1.heap.size u1) (Obj.cells #[Value.slice aa la ca] 24) (Obj.cells #[Value.slice ar1 lr1 cr1] 27)
  have p1 := boxed2_first u1 (Obj.cells #[Value.slice aa la ca] 24) (Obj.cells #[Value.slice ar1 lr1 cr1] 27)
  cases b1
  · clear f1
    go_wp2
    go_ret
    exact ⟨rfl, c1⟩
  obtain ⟨tx, na1, _⟩ := f1 rfl
  have na := na1.below d1
  clear na1 hb1 d1 f1
  have hm : num x < 2 ^ (4 * x.size) := Nat.lt_of_lt_of_le (num_lt tx) (pow_ten x.size)
  obtain ⟨b, hb⟩ : ∃ b, Bin (num x) b := ⟨_, bin_ex (num x)⟩
  have hb4 : b ≤ 4096 := Nat.le_trans (bin_le hb hm) (by omega)
  clear hm
  go_wp2_with fail
  generalize (u1.alloc (Obj.cells #[Value.slice aa la ca] 24)).alloc (Obj.cells #[Value.slice ar1 lr1 cr1] 27) = W at *
  refine (bits_any _ _ _ _ b (by omega) na hb).mono ?_
  rintro e w2 ⟨rfl, hb2⟩
  have c2 := chain2 c1 hb2
  have p2 := box_below hb2 p1 (lt_of_block p1)
  have t2 := cell_of_one p2
  have na2 := na.below hb2
  clear c1 hb2 p1 na
  have HB := hid hb
  clear hb
  cases hz : (x.toList == [48])
  · have hpos := num_pos tx hz
    have hb1 : 1 ≤ b := by
      rcases Nat.eq_zero_or_pos b with e | e
      · have := HB.out.1; rw [e] at this; simp at this; omega
      · exact e
    go_wp2_with fail
    refine (of_lit 1 1 rfl (by omega) _).mono ?_
    rintro e w3 ⟨v, rfl, nv, hb3⟩
    obtain ⟨av, lv, cv, hv⟩ := nv.form
    rw [hv] at nv ⊢
    clear hv
    have c3 := below_alloc' (chain2 c2 hb3) (Nat.le_refl _) (Obj.cells #[Value.slice av lv cv] 24)
    have p3 := box_alloc (box_below hb3 p2 (lt_of_block p2)) (Obj.cells #[Value.slice av lv cv] 24)
    have q3 := box_new w3 (Obj.cells #[Value.slice av lv cv] 24)
    have na3 := (na2.below hb3).below ((Below.refl _ _).alloc (Nat.le_refl _) (Obj.cells #[Value.slice av lv cv] 24))
    have nv3 := nv.below ((Below.refl _ _).alloc (Nat.le_refl _) (Obj.cells #[Value.slice av lv cv] 24))
    have l3 : u1.heap.size < w3.heap.size := lt_of_block (box_below hb3 p2 (lt_of_block p2))
    have hzero : w.heap.size ≤ w3.heap.size := (chain2 c2 hb3).size
    clear c2 hb3 p2 na2 nv t2
    go_wp2_with fail
    generalize w3.alloc (Obj.cells #[Value.slice av lv cv] 24) = W3 at *
    refine (of_lit 2 2 rfl (by omega) _).mono ?_
    rintro e w4 ⟨v, rfl, nt, hb4⟩
    obtain ⟨at4, lt4, ct4, hv⟩ := nt.form
    rw [hv] at nt ⊢
    clear hv
    have c4 := below_alloc' (chain2 c3 hb4) (Nat.le_refl _) (Obj.cells #[Value.slice at4 lt4 ct4] 24)
    have p4 := box_alloc (box_below hb4 p3 (lt_of_block p3)) (Obj.cells #[Value.slice at4 lt4 ct4] 24)
    have q4 := box_alloc (box_below hb4 q3 (lt_of_block q3)) (Obj.cells #[Value.slice at4 lt4 ct4] 24)
    have r4 := box_new w4 (Obj.cells #[Value.slice at4 lt4 ct4] 24)
    have na4 := (na3.below hb4).below ((Below.refl _ _).alloc (Nat.le_refl _) (Obj.cells #[Value.slice at4 lt4 ct4] 24))
    have nv4 := (nv3.below hb4).below ((Below.refl _ _).alloc (Nat.le_refl _) (Obj.cells #[Value.slice at4 lt4 ct4] 24))
    have nt4 := nt.below ((Below.refl _ _).alloc (Nat.le_refl _) (Obj.cells #[Value.slice at4 lt4 ct4] 24))
    have l4 : w3.heap.size < w4.heap.size := lt_of_block (box_below hb4 q3 (lt_of_block q3))
    clear c3 hb4 p3 q3 na3 nv3 nt
    go_wp2
    generalize w4.alloc (Obj.cells #[Value.slice at4 lt4 ct4] 24) = W4 at *
    go_loopw [10] (fun i wr => ∃ (k : Nat) (al : Option Addr) (ll cl : Nat), 1 ≤ k ∧ k ≤ b ∧ i = .int .i64 k ∧ wr.heap[u1.heap.size]? = some (Obj.cells #[Value.slice aa la ca] 24) ∧ wr.heap[w3.heap.size]? = some (Obj.cells #[Value.slice al ll cl] 24) ∧ wr.heap[w4.heap.size]? = some (Obj.cells #[Value.slice at4 lt4 ct4] 24) ∧
        NatIs wr (.agg #[.slice aa la ca]) (num x) (x.size / 9 + 1) ∧ NatIs wr (.agg #[.slice al ll cl]) (2 ^ (k - 1)) (2 * k + 2) ∧ NatIs wr (.agg #[.slice at4 lt4 ct4]) 2 2 ∧ Below w.heap.size w wr) (fun i _ => b - (intOf i).toNat)
    case atStart => exact ⟨1, av, lv, cv, Nat.le_refl _, hb1, rfl, p4, q4, r4, na4, nv4.mono (by omega), nt4, c4⟩
    case round =>
      obtain ⟨k, al, ll, cl, hk1, hk2, rfl, p5, q5, r5, na5, nl5, nt5, c5⟩ := hrel
      clear p4 q4 r4 na4 nv4 nt4 c4
      have cp := cell_of_one p5
      have cq := cell_of_one q5
      have cr := cell_of_one r5
      have fq := free_of_one q5
      by_cases hlt : k < b
      · go_wp2_with fail
        refine (mul_any _ _ _ _ _ _ _ (by omega) (by omega) nl5 nt5).mono ?_
        rintro e w6 ⟨v, rfl, n6, hb6⟩
        obtain ⟨a6, l6, c6, hv⟩ := n6.form
        rw [hv] at n6 ⊢
        clear hv
        have q6 := box_below hb6 q5 (lt_of_block q5)
        have p6 := box_set (box_below hb6 p5 (lt_of_block p5)) (show u1.heap.size ≠ w3.heap.size by omega) (Value.slice a6 l6 c6)
        have r6 := box_set (box_below hb6 r5 (lt_of_block r5)) (show w4.heap.size ≠ w3.heap.size by omega) (Value.slice a6 l6 c6)
        have s6 := one_setCell (u := Value.slice a6 l6 c6) q6
        have m1 := (na5.below hb6).box q6 (by decide) (Value.slice a6 l6 c6)
        have m2 := n6.box q6 (by decide) (Value.slice a6 l6 c6)
        have m3 := (nt5.below hb6).box q6 (by decide) (Value.slice a6 l6 c6)
        have m4 := (chain2 c5 hb6).setCell (p := ⟨w3.heap.size, 0, none⟩) hzero (Value.slice a6 l6 c6)
        have g6 := cell_of_one q6
        have f6 := free_of_one q6
        clear p5 q5 r5 na5 nl5 nt5 c5 n6 hb6 q6
        have M := hid (And.intro p6 (And.intro s6 (And.intro r6 (And.intro m1 (And.intro m2 (And.intro m3 m4))))))
        clear p6 s6 r6 m1 m2 m3 m4
        go_wp2
        go_roundw
        case rel => exact ⟨k + 1, a6, l6, c6, by omega, by omega, by go_num, M.out.1, M.out.2.1, M.out.2.2.1, M.out.2.2.2.1, by have h := M.out.2.2.2.2.1; rw [show 2 ^ (k + 1 - 1) = 2 ^ (k - 1) * 2 by rw [← Nat.pow_succ]; congr 1; omega]; exact h.mono (by omega), M.out.2.2.2.2.2.1, M.out.2.2.2.2.2.2⟩
        case measure => simp [intOf]; omega
      · have hkb : k = b := by omega
        rw [hkb] at nl5
        clear hkb
        have hl : 2 ^ b = 2 ^ (b - 1) * 2 := by rw [← Nat.pow_succ]; congr 1; omega
        have E1 := hid (bin_twice HB.out hpos)
        have E2 := hid (show m_low (2 ^ (b - 1)) (num x) from by have := HB.out.2.1 (by omega); unfold m_low; omega)
        have E3 := hid (show num x < 2 ^ (b - 1) * 2 from by have := HB.out.1; omega)
        have E4 := hid (bin_pow b hb1)
        have cast1 : ((b + 1 : Nat) : Int) = (b : Int) + 1 := by omega
        have hwr : IntKind.i64.wrap ((b : Int) + 1) = (b : Int) + 1 := by simp [IntKind.wrap, IntKind.bits, IntKind.signed]; omega
        obtain ⟨q, hq⟩ : ∃ q, cmpI (2 ^ (b - 1)) (num x) = q := ⟨_, rfl⟩
        have hq0 : q ≤ 0 := by rw [← hq]; exact cmpI_le E2.out
        have HQ := hid hq
        have HQ2 := hid (cmpI_lt E3.out)
        clear hq hl p5 q5 r5 fq
        generalize num x = X at *
        go_wp2
        have B0 : Below wr.heap.size wr wr.drew := (Below.refl _ _).drew
        go_region_held3 (fun w' => w'.cell? ⟨u1.heap.size, 0, none⟩ = some (.slice aa la ca) ∧ w'.cell? ⟨w3.heap.size, 0, none⟩ = some (.slice al ll cl) ∧ w'.cell? ⟨w4.heap.size, 0, none⟩ = some (.slice at4 lt4 ct4)) ((refine keep3 cp cq cr ?_; first | exact B0 | exact B1 | exact B2 | exact B3 | exact B4 | exact B5 | exact B6)) (first | (go_at_call 7; refine (add_any _ _ _ _ _ _ _ (by omega) (by omega) (na5.below B0) (na5.below B0)).mono ?_; rintro e w6 ⟨v6, rfl, n6, hb6⟩; have B1 := chain2 B0 hb6) | (go_at_call_of 6 (Value.agg #[Value.slice al ll cl]); refine (bits_any _ _ _ _ b (by omega) (nl5.below B5) E4.out).mono ?_; rintro e w11 ⟨rfl, hb11⟩; have B6 := chain2 B5 hb11) | (go_at_call 6; refine (bits_any _ _ _ _ (b + 1) (by omega) n6 E1.out).mono ?_; rintro e w7 ⟨rfl, hb7⟩; have B2 := chain2 B1 hb7; rw [cast1]) | (go_at_call_of 10 (Value.agg #[Value.slice al ll cl]); refine (cmp_any _ _ _ _ _ _ _ (nl5.below B2) (na5.below B2)).mono ?_; rintro e w8 ⟨rfl, hb8⟩; have B3 := chain2 B2 hb8; rw [HQ.out]) | (go_at_call 9; refine (mul_any _ _ _ _ _ _ _ (by omega) (by omega) (nl5.below B3) (nt5.below B3)).mono ?_; rintro e w9 ⟨v9, rfl, n9, hb9⟩; have B4 := chain2 B3 hb9) | (go_at_call 10; refine (cmp_any _ _ _ _ _ _ _ (na5.below B4) n9).mono ?_; rintro e w10 ⟨rfl, hb10⟩; have B5 := chain2 B4 hb10; rw [HQ2.out]))
        have c9 := chain2 c5 B6
        go_wp2
        go_ret
        exact ⟨rfl, c9⟩
  · have h0 := num_zero hz
    have hb0 : b = 0 := HB.out.2.2 h0
    subst hb0
    go_wp2_with fail
    refine (add_any _ _ _ _ _ _ _ (by omega) (by omega) na2 na2).mono ?_
    rintro e w3 ⟨v, rfl, nv, hb3⟩
    have c3 := chain2 c2 hb3
    obtain ⟨av, lv, cv, hv⟩ := nv.form
    rw [hv]
    rw [hv] at nv
    clear hv
    go_wp2_with fail
    refine (bits_any _ _ _ _ 0 (by omega) nv (by rw [h0]; simp [Bin])).mono ?_
    rintro e w4 ⟨rfl, hb4⟩
    have c4 := chain2 c3 hb4
    go_wp2
    go_ret
    exact ⟨rfl, c4⟩
end Go.Proofs.Ytimchmpiaebmmaa
