/- RatMakes: what the call answers. -/
import Derived.Test.YtjldlmonccgopaaGreatDoorPk4
import Derived.Test.YtjldlmonccgopaaGreatDoorPk18
import Derived.Test.YtjldlmonccgopaaGreatDoorPk25
import Derived.Test.YtjldlmonccgopaaGreatDoorPk29
import Derived.Test.YtjldlmonccgopaaGreatDoorZQMake
namespace Go.Proofs.YtjldlmonccgopaaGreatDoor
open Go.RowKit
set_option linter.unusedVariables false
set_option maxRecDepth 100000
set_option linter.unusedSimpArgs false
attribute [local go_sem ↓] Go.wp_at_zero Go.wp_at_succ

open Classical in
noncomputable def zE (s : ByteArray) : Int := if ∃ z, ZTx s z then 0 else 10
theorem zE_cases (s : ByteArray) : (zE s = 0 ∧ ∃ z, ZTx s z) ∨ zE s = 10 := by
  by_cases h : ∃ z, ZTx s z
  · exact Or.inl ⟨by rw [zE, if_pos h], h⟩
  · exact Or.inr (by rw [zE, if_neg h])
theorem mkD_sign (x y : Int) : signZ (mkD x y) = 1 := by
  unfold mkD
  by_cases h : y = 0
  · rw [if_pos h]; rfl
  · rw [if_neg h]
    have h1 := low_ne (x := x) h
    have h2 : 0 ≤ lowD x y := Int.natCast_nonneg _
    unfold signZ
    rw [if_neg (by omega), if_pos (by omega)]
theorem keepQ {W X : World} {p q : Nat} {x0 x1 x2 x3 y0 y1 y2 y3 : Value} (h0 : W.cell? ⟨p, 0, none⟩ = some x0) (h1 : W.cell? ⟨p, 1, none⟩ = some x1) (h2 : W.cell? ⟨p, 2, none⟩ = some x2) (h3 : W.cell? ⟨p, 3, none⟩ = some x3) (k0 : W.cell? ⟨q, 0, none⟩ = some y0) (k1 : W.cell? ⟨q, 1, none⟩ = some y1) (k2 : W.cell? ⟨q, 2, none⟩ = some y2) (k3 : W.cell? ⟨q, 3, none⟩ = some y3) (h : Below W.heap.size W X) :
    X.cell? ⟨p, 0, none⟩ = some x0 ∧ X.cell? ⟨p, 1, none⟩ = some x1 ∧ X.cell? ⟨p, 2, none⟩ = some x2 ∧ X.cell? ⟨p, 3, none⟩ = some x3 ∧ X.cell? ⟨q, 0, none⟩ = some y0 ∧ X.cell? ⟨q, 1, none⟩ = some y1 ∧ X.cell? ⟨q, 2, none⟩ = some y2 ∧ X.cell? ⟨q, 3, none⟩ = some y3 := ⟨kc h h0, kc h h1, kc h h2, kc h h3, kc h k0, kc h k1, kc h k2, kc h k3⟩
theorem nparse_both (s : ByteArray) (w : World) (hs : s.size ≤ 1000000000) :
    Calls Tryz.prog 51 #[.string s] w fun e w' => ∃ ao l c d, e = .returned (.tuple #[.agg #[.slice ao l c, .bool d], .int .i64 (zE s)]) ∧ (∀ z, ZTx s z → NumIs w' (.agg #[.slice ao l c, .bool d]) z (s.size / 9 + 1)) ∧ Below w.heap.size w w' := by
  by_cases h : ∃ z, ZTx s z
  · obtain ⟨z, hz⟩ := h
    refine (nparse_z s z w hs hz).mono ?_
    rintro e w' ⟨ao, l, c, rfl, h1, h2⟩
    refine ⟨ao, l, c, _, by rw [zE, if_pos ⟨z, hz⟩], fun z' hz' => ?_, h2⟩
    obtain rfl := hz.uniq hz'
    exact ⟨ao, l, c, rfl, h1⟩
  · refine (nparse_none s w hs (fun z hz => h ⟨z, hz⟩)).mono ?_
    rintro e w' ⟨rfl, h2⟩
    exact ⟨none, 0, 0, false, by rw [zE, if_neg h], fun z hz => absurd ⟨z, hz⟩ h, h2⟩
theorem sparse_both (s : ByteArray) (w : World) (hs : s.size ≤ 1000000000) :
    Calls Tryz.prog 53 #[.string s] w fun e w' => ∃ ao l c d, e = .returned (.tuple #[.agg #[.bool d, .slice ao l c], .int .i64 (zE s)]) ∧ (∀ z, ZTx s z → RNumIs w' (.agg #[.bool d, .slice ao l c]) z (s.size / 9 + 1)) ∧ Below w.heap.size w w' := by
  by_cases h : ∃ z, ZTx s z
  · obtain ⟨z, hz⟩ := h
    refine (sparse_z s z w hs hz).mono ?_
    rintro e w' ⟨ao, l, c, rfl, h1, h2⟩
    refine ⟨ao, l, c, _, by rw [zE, if_pos ⟨z, hz⟩], fun z' hz' => ?_, h2⟩
    obtain rfl := hz.uniq hz'
    exact ⟨ao, l, c, rfl, h1⟩
  · refine (sparse_none s w hs (fun z hz => h ⟨z, hz⟩)).mono ?_
    rintro e w' ⟨rfl, h2⟩
    exact ⟨none, 0, 0, false, by rw [zE, if_neg h], fun z hz => absurd ⟨z, hz⟩ h, h2⟩
theorem tmake_any (w : World) (a b : Value) (x y : Int) (K : Nat) (hK : K ≤ 100000000) (ha : RNumIs w a x K) (hb : RNumIs w b y K) :
    Calls Tryz.prog 55 #[a, b] w fun e w' => (∃ a1 l1 c1 d1 a2 l2 c2 d2, e = .returned (.tuple #[.agg #[.bool d1, .slice a1 l1 c1, .bool d2, .slice a2 l2 c2], .int .i64 (mkE y)]) ∧ TRatIs w' (.agg #[.bool d1, .slice a1 l1 c1, .bool d2, .slice a2 l2 c2]) (mkN x y) (mkD x y) K) ∧ Below w.heap.size w w' := by
  by_cases h : y = 0
  · subst h
    refine (tmake_zero w a b x K hK ha hb).mono ?_
    rintro e w' ⟨rfl, h2⟩
    exact ⟨⟨none, 0, 0, false, none, 0, 0, false, by simp [mkE], by simp only [mkN, mkD, if_pos]; exact ⟨none, 0, 0, none, 0, 0, 0, rfl, ⟨none, 0, 0, rfl, (ref_zero w').mono (Nat.zero_le _)⟩, ⟨none, 0, 0, rfl, (ref_zero w').mono (Nat.zero_le _)⟩, Or.inr ⟨rfl, rfl⟩⟩⟩, h2⟩
  · obtain ⟨a1, l1, c1, b1, rfl⟩ := rnum_form ha
    obtain ⟨a2, l2, c2, b2, rfl⟩ := rnum_form hb
    refine (tmake_walk w a1 a2 l1 c1 l2 c2 b1 b2 x y K hK h ha hb).mono ?_
    rintro e w' ⟨⟨v, rfl, T⟩, h2⟩
    have T' := T
    obtain ⟨a3, l3, c3, a4, l4, c4, m, rfl, _⟩ := T'
    exact ⟨⟨a3, l3, c3, _, a4, l4, c4, _, by rw [mkE, if_neg h], by rw [mkN, if_neg h, mkD, if_neg h]; exact T⟩, h2⟩
end Go.Proofs.YtjldlmonccgopaaGreatDoor
