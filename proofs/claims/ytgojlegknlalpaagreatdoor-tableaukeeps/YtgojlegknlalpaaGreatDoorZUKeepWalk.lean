/- TableauKeeps: the walk. -/
import Derived.Test.YtgojlegknlalpaaGreatDoorZUZro
import Derived.Test.YtgojlegknlalpaaGreatDoorPk36
import Derived.Test.YtgojlegknlalpaaGreatDoorPk34
import Derived.Test.YtgojlegknlalpaaGreatDoorZGNew
import Derived.Deep.RegionHeld3
namespace Go.Proofs.YtgojlegknlalpaaGreatDoor
open Go.RowKit
set_option linter.unusedVariables false
set_option maxRecDepth 100000
set_option linter.unusedSimpArgs false

def allz (A : List URw) (X : List Int) : Nat → Bool
  | 0 => true
  | k + 1 => allz A X k && decide (dotV (vl (A.getD k ([], 0, 0))) X X.length = 0)
theorem allz_iff (A : List URw) (X : List Int) : ∀ k, k ≤ A.length → (allz A X k = true ↔ ∀ j (hj : j < A.length), j < k → dotV (vl A[j]) X X.length = 0)
  | 0, _ => ⟨fun _ j _ h => absurd h (Nat.not_lt_zero _), fun _ => rfl⟩
  | k + 1, h => by
    have ih := allz_iff A X k (by omega)
    simp only [allz, Bool.and_eq_true, decide_eq_true_eq]
    rw [ih, getD_at (show k < A.length by omega)]
    constructor
    · rintro ⟨h1, h2⟩ j hj hjk
      by_cases e : j = k
      · subst e; exact h2
      · exact h1 j hj (by omega)
    · intro H
      exact ⟨fun j hj hjk => H j hj (by omega), H k (by omega) (by omega)⟩
theorem allz_piv {A A' : List URw} {X : List Int} {r c n : Int} {m : Nat} (h : PInv A (ucols A) m) (hl : X.length = ucols A) (hp : PivS A r c n A') : allz A' X A'.length = allz A X A.length := by
  rcases hp with ⟨_, _, rfl⟩ | ⟨_, _, _, _, _, _, _, _, rfl⟩ | ⟨i, k, hi, hk, _, _, hne, _, rfl⟩
  · rfl
  · rfl
  · have h1 := allz_iff (pivA A i k) X _ (Nat.le_refl _)
    have h2 := allz_iff A X _ (Nat.le_refl _)
    have h3 := keep_piv (X := X) h hi hk hne
    rw [← hl] at h3
    have h4 : allz (pivA A i k) X (pivA A i k).length = true ↔ allz A X A.length = true := by
      rw [h1, h2]
      constructor
      · intro H j hj _
        exact h3.1 (fun j hj => H j hj hj) j hj
      · intro H j hj _
        exact h3.2 (fun j hj => H j hj hj) j hj
    cases e1 : allz (pivA A i k) X (pivA A i k).length with
    | true => exact (h4.1 e1).symm
    | false =>
      cases e2 : allz A X A.length with
      | true => rw [h4.2 e2] at e1; cases e1
      | false => rfl
theorem mm_top {k : Nat} (h : k ≤ 16) : mm k ≤ 1310719 := by
  have h1 := mm_mono k (16 - k)
  rw [show k + (16 - k) = 16 by omega] at h1
  have h2 : mm 16 = 1310719 := by decide
  omega
set_option maxHeartbeats 25600000 in
theorem tabKeeps_any (w : World) (rv bv lv xv : Value) (M : List (List Int)) (B : List Int) (L : List (Int × Int)) (X : List Int) (h : IntRows w rv M) (hb : Ints w bv B) (hl : UStp w lv L) (hx : Ints w xv X) (htab : Tab w) (hM : M.length ≤ 1152921504606846976) (hBl : B.length ≤ 1152921504606846976) (hS : L.length ≤ 72057594037927936) :
    Calls Tryz.prog 7 #[rv, bv, lv, xv] w fun e w' => e = .returned (.bool true) ∧ Below w.heap.size w w' := by
  obtain ⟨la, lc, rfl, ll, lm⟩ := hl.slice
  unfold maxLen at lm
  have HI := hid h
  have HB := hid hb
  have HL := hid hl
  have HX := hid hx
  have HTB := hid htab
  have HV := hid (heavy12_any w rv bv la L.length lc M B h hb ll lm)
  have HSZ := hid (And.intro hM (And.intro hBl hS))
  obtain ⟨ra, rc, rfl, rl, rm⟩ := h.slice
  obtain ⟨ba, bc, rfl, bl, bm⟩ := hb.slice
  obtain ⟨xa, xc, rfl, xl, xm⟩ := hx.slice
  unfold maxLen at xm
  clear h hb hl hx htab hM hBl hS
  go_enter Tryz.func7, Tryz.ntmps7
  go_wp2_with fail
  refine HV.out.mono ?_
  rintro e X0 ⟨⟨hvB, rfl, hv⟩, hX⟩
  subst hX
  have HVV := hid hv
  clear hv
  cases hvB with
  | true =>
    go_wp2
    go_ret
    exact ⟨rfl, Below.refl _ _⟩
  | false =>
  have HL16 : Hid (L.length ≤ 16) := hid (by have := HVV.out rfl HSZ.out.1 HSZ.out.2.1 HSZ.out.2.2; omega)
  clear HV HVV HSZ
  go_wp2_with fail
  refine (uNewB_any X0 _ _ M B HI.out HB.out).mono ?_
  rintro e X1 ⟨hr1, bX1⟩
  have HI1 := hid (HI.out.below bX1)
  have HB1 := hid (HB.out.below bX1)
  rcases hr1 with ⟨hne, rfl⟩ | ⟨hz, tb, rfl, htb, hT⟩
  · have HNE := hid hne
    clear hne
    go_wp2_with fail
    refine (gNew_any X1 _ _ M B HI1.out HB1.out).mono ?_
    rintro e X2 ⟨hr2, bX2⟩
    have BF := chain2 bX1 bX2
    rcases hr2 with ⟨-, rfl⟩ | ⟨hz, _⟩
    · generalize unw M B = R at *
      have d1 : (R == 0) = false := beq_eq_false_iff_ne.2 HNE.out
      have d2 : ¬ R = 0 := HNE.out
      go_wp2
      go_ret
      exact ⟨rfl, BF⟩
    · exact absurd hz HNE.out
  have HT := hid hT
  have HZ := hid hz
  have HU := hid (uzip_ok hz)
  have HPI0 := hid (uzip_inv hz)
  clear hT hz
  go_wp2_with fail
  refine (gNew_any X1 _ _ M B HI1.out HB1.out).mono ?_
  rintro e X2 ⟨hr2, bX2⟩
  rcases hr2 with ⟨hne, _⟩ | ⟨_, gb, rfl, hgb, hG⟩
  · exact absurd HZ.out hne
  have BF := chain2 bX1 bX2
  have HT2 := hid (HT.out.below bX2)
  obtain ⟨u1, u2, u3, u4, u5, u6⟩ := HU.out
  have HU2 := hid u2
  have HU3 := hid u3
  have HU4 := hid u4
  clear hG HT HI1 HB1 bX1 bX2 htb hgb HZ HU HI HB u1 u2 u3 u4 u5 u6
  generalize uzip M B = A0 at *
  obtain ⟨N, HN⟩ : ∃ N, Hid (M.length = N) := ⟨_, hid rfl⟩
  rw [HN.out] at HU4
  obtain ⟨base, HBA⟩ : ∃ base, Hid (X0.heap.size = base) := ⟨_, hid rfl⟩
  rw [HBA.out] at HT2 BF
  have HN64 : Hid (N ≤ 64) := hid (by rw [← HU4.out]; exact HU3.out)
  have hN64 : N ≤ 64 := HN64.out
  simp only [HN.out] at rl rm ⊢
  have HXX := hid (fun (Z : World) (kz : Below base X0 Z) => show Ints Z (.slice xa X.length xc) X from HX.out.below (by rw [HBA.out]; exact kz))
  have HTBx := hid (fun (Z : World) (kz : Below base X0 Z) => show Tab Z from HTB.out.below (by rw [HBA.out]; exact kz))
  have HBF := hid BF
  clear BF HX HTB
  go_wp2_with fail
  refine (uColumns_any X2 tb A0 3 HT2.out.tb).mono ?_
  rintro e Xc ⟨rfl, hXc⟩
  subst hXc
  by_cases hxc : X.length = ucols A0
  case neg =>
    have hx1 : ((X.length : Int) == (ucols A0 : Int)) = false := beq_eq_false_iff_ne.2 (by omega)
    have hx2 : ¬ (X.length : Int) = (ucols A0 : Int) := by omega
    clear hxc
    generalize ucols A0 = cc at *
    go_wp2_with fail
    refine (uRows_any _ tb A0 3 HT2.out.tb).mono ?_
    rintro e X3 ⟨rfl, hX3⟩
    subst hX3
    rw [HU4.out]
    go_wp2
    go_ret
    rw [HBA.out]
    exact ⟨rfl, HBF.out⟩
  have HXL := hid hxc
  rw [← hxc]
  clear hxc
  go_wp2_with fail
  go_loopw [13, 14] (fun sv iv wr => ∃ k : Nat, k ≤ N ∧ iv = .int .i64 (k : Int) ∧ sv = .bool (allz A0 X k) ∧ Hid (Below Xc.heap.size Xc wr)) (fun _ iv _ => N - (intOf iv).toNat)
  case atStart => exact ⟨0, Nat.zero_le _, rfl, rfl, hid (Below.refl _ _)⟩
  case round =>
    obtain ⟨k, hk, rfl, rfl, HBW⟩ := hrel
    have HTW := hid (HT2.out.below HBW.out)
    go_wp2_with fail
    refine (uRows_any wr tb A0 3 HTW.out.tb).mono ?_
    rintro e X3 ⟨rfl, hX3⟩
    subst hX3
    rw [HU4.out]
    by_cases hlt : k < N
    · have HZE := hid (show allz A0 X (k + 1) = (allz A0 X k && decide (dotV (vl (A0.getD k ([], 0, 0))) X X.length = 0)) from rfl)
      have hkA : k < A0.length := by rw [HU4.out]; exact hlt
      have HZC := hid (zero12_any X3 tb A0 19 (by decide) (by decide) HTW.out.tb HPI0.out HU2.out HU3.out k hkA (.slice xa X.length xc) X (HXX.out _ (HBF.out.trans (HBW.out.mono (by have h1 := HBF.out.size; have h2 := HBA.out; omega)))) HXL.out (HTBx.out _ (HBF.out.trans (HBW.out.mono (by have h1 := HBF.out.size; have h2 := HBA.out; omega)))))
      rw [← getD_at (d := ([], 0, 0)) hkA] at HZC
      generalize decide (dotV (vl (A0.getD k ([], 0, 0))) X X.length = 0) = z at *
      clear hkA
      cases hzk : allz A0 X k with
      | true =>
        rw [hzk, Bool.true_and] at HZE
        go_wp2_with fail
        refine HZC.out.mono ?_
        rintro e X4 ⟨rfl, b4⟩
        have HB4 := hid (chain2 HBW.out b4)
        go_wp2
        go_roundw
        case rel => exact ⟨k + 1, by omega, by go_num, by rw [HZE.out], HB4⟩
        case measure => simp [intOf]; omega
      | false =>
        rw [hzk, Bool.false_and] at HZE
        go_wp2
        go_roundw
        case rel => exact ⟨k + 1, by omega, by go_num, by rw [HZE.out], HBW⟩
        case measure => simp [intOf]; omega
    · obtain rfl : k = N := by omega
      have HTN := hid (show UTn X3 base tb A0 (mm 0 / 9 + 1) from HTW.out)
      have HB3 := hid (HBF.out.trans (HBW.out.mono (by have h1 := HBF.out.size; have h2 := HBA.out; omega)))
      have HW0 : Hid (allz A0 X A0.length = allz A0 X k) := hid (by rw [HU4.out])
      generalize allz A0 X k = was at *
      clear HBW HTW HBF HT2
      go_wp2_with fail
      go_loopw [15] (fun iv wr => ∃ (q : Nat) (A : List URw), q ≤ L.length ∧ iv = .int .i64 (q : Int) ∧ Hid (UTn wr base tb A (mm q / 9 + 1)) ∧ Hid (PInv A (ucols A) (mm q)) ∧ Hid (X.length = ucols A) ∧ Hid (A.length = k) ∧ Hid (allz A X A.length = was) ∧ Hid (Below base X0 wr)) (fun iv _ => L.length - (intOf iv).toNat)
      case atStart => exact ⟨0, A0, Nat.zero_le _, rfl, HTN, HPI0, HXL, HU4, HW0, HB3⟩
      case round =>
        clear HTN HB3 HW0
        obtain ⟨q, A, hq, rfl, HTn, HPI, HXA, HAN, HAW, HBw⟩ := hrel
        obtain ⟨wr0, hwr0⟩ : ∃ wr0, wr0 = wr := ⟨_, rfl⟩
        subst hwr0
        have HCL : Hid (ucols A ≤ 192) := hid (by rw [← HXA.out, HXL.out]; exact HU2.out)
        have HA64 : Hid (A.length ≤ 64) := hid (by rw [HAN.out]; exact HN64.out)
        by_cases hlt : q < L.length
        · obtain ⟨sb, so, sc, e, hc1, hc2⟩ := HL.out.at q hlt
          simp only [Value.slice.injEq] at e
          obtain ⟨rfl, -, rfl⟩ := e
          generalize (L[q]).1 = r at *
          generalize (L[q]).2 = c at *
          have HKx := hid (fun (Z : World) (kz : Below base X0 Z) => show (Z.cell? ⟨sb, so + q * 2, none⟩ = some (.int .i64 r) ∧ Z.cell? ⟨sb, so + q * 2 + 1, none⟩ = some (.int .i64 c)) from ⟨kcU (by rw [HBA.out]; exact kz) hc1, kcU (by rw [HBA.out]; exact kz) hc2⟩)
          have HK2 : Hid (mm (q + 1) / 9 + 1 ≤ 200000) := hid (mm_le (by have := HL16.out; omega))
          have HKT : Hid (mm (q + 1) ≤ 1310719) := hid (mm_top (by have := HL16.out; omega))
          have HPV := hid (fun (Y : World) (bY : Below wr0.heap.size wr0 Y) => uPivotS_any Y base tb A (mm q) (mm q / 9 + 1) (mm (q + 1) / 9 + 1) rfl (mm_ge q) rfl HK2.out (HTn.out.below bY) (by have h1 := HBw.out.size; have h2 := bY.size; have h3 := HBA.out; omega) HPI.out HCL.out HA64.out r c)
          obtain ⟨z1, z2⟩ := HKx.out _ HBw.out
          have F0 : Below wr0.heap.size wr0 wr0.drew := (Below.refl _ _).drew
          have B1 : Below base X0 wr0.drew := HBw.out.drew
          go_wp2_with fail
          refine wp_region_noPanic ?_
          refine wp_region_held_drew (S := fun Y => Y.cell? ⟨sb, so + q * 2, none⟩ = some (.int .i64 r) ∧ Y.cell? ⟨sb, so + q * 2 + 1, none⟩ = some (.int .i64 c)) (by kernel_rfl) (HKx.out _ B1) (fun hHeld => ?_)
          refine wpAnyH_take (i := 0) (v := ?_) rfl (by kernel_rfl) (by kernel_rfl) (by kernel_rfl) (fun _ _ _ h => h) (Or.inl ⟨by rfl, ?_⟩) (by assumption) ?_
          rotate_left
          · intro w hSw
            (try dsimp only at hSw)
            go_simp
            (try with_reducible rfl)
          (try simp only [List.getElem_toArray, List.getElem_cons_zero, List.getElem_cons_succ, Act.put, List.setIfInBounds_toArray, List.set_cons_zero, List.set_cons_succ])
          refine wpAnyH_take (i := 1) (v := ?_) rfl (by kernel_rfl) (by kernel_rfl) (by kernel_rfl) (fun _ _ _ h => h) (Or.inl ⟨by rfl, ?_⟩) (by assumption) ?_
          rotate_left
          · intro w hSw
            (try dsimp only at hSw)
            go_simp
            (try with_reducible rfl)
          (try simp only [List.getElem_toArray, List.getElem_cons_zero, List.getElem_cons_succ, Act.put, List.setIfInBounds_toArray, List.set_cons_zero, List.set_cons_succ])
          refine wpAnyH_take (i := 2) (v := ?_) rfl (by kernel_rfl) (by kernel_rfl) (by kernel_rfl) (fun _ _ _ h => h) (Or.inl ⟨by rfl, ?_⟩) (by assumption) ?_
          rotate_left
          · intro w hSw
            (try dsimp only at hSw)
            go_simp
            (try with_reducible rfl)
          (try simp only [List.getElem_toArray, List.getElem_cons_zero, List.getElem_cons_succ, Act.put, List.setIfInBounds_toArray, List.set_cons_zero, List.set_cons_succ])
          refine wpAnyH_take (i := 3) (v := ?_) rfl (by kernel_rfl) (by kernel_rfl) (by kernel_rfl) (fun _ _ _ h => h) (Or.inl ⟨by rfl, ?_⟩) (by assumption) ?_
          rotate_left
          · intro w hSw
            (try dsimp only at hSw)
            go_simp
            (try with_reducible rfl)
          (try simp only [List.getElem_toArray, List.getElem_cons_zero, List.getElem_cons_succ, Act.put, List.setIfInBounds_toArray, List.set_cons_zero, List.set_cons_succ])
          refine wpAnyH_take (i := 4) (v := ?_) rfl (by kernel_rfl) (by kernel_rfl) (by kernel_rfl) (fun _ _ _ h => h) (Or.inl ⟨by rfl, ?_⟩) (by assumption) ?_
          rotate_left
          · intro w hSw
            (try dsimp only at hSw)
            go_simp
            (try with_reducible rfl)
          (try simp only [List.getElem_toArray, List.getElem_cons_zero, List.getElem_cons_succ, Act.put, List.setIfInBounds_toArray, List.set_cons_zero, List.set_cons_succ])
          refine wpAnyH_take (i := 5) (v := ?_) rfl (by kernel_rfl) (by kernel_rfl) (by kernel_rfl) (fun _ _ _ h => h) (Or.inl ⟨by rfl, ?_⟩) (by assumption) ?_
          rotate_left
          · intro w hSw
            (try dsimp only at hSw)
            go_simp
            (try with_reducible rfl)
          (try simp only [List.getElem_toArray, List.getElem_cons_zero, List.getElem_cons_succ, Act.put, List.setIfInBounds_toArray, List.set_cons_zero, List.set_cons_succ])
          refine wpAnyH_take (i := 6) (v := ?_) rfl (by kernel_rfl) (by kernel_rfl) (by kernel_rfl) (fun _ _ _ h => h) (Or.inl ⟨by rfl, ?_⟩) (by assumption) ?_
          rotate_left
          · intro w hSw
            (try dsimp only at hSw)
            go_simp
            (try with_reducible rfl)
          (try simp only [List.getElem_toArray, List.getElem_cons_zero, List.getElem_cons_succ, Act.put, List.setIfInBounds_toArray, List.set_cons_zero, List.set_cons_succ])
          refine wpAnyH_take (i := 7) (v := ?_) rfl (by kernel_rfl) (by kernel_rfl) (by kernel_rfl) (fun _ _ _ h => h) (Or.inl ⟨by rfl, ?_⟩) (by assumption) ?_
          rotate_left
          · intro w hSw
            (try dsimp only at hSw)
            go_simp
            (try with_reducible rfl)
          (try simp only [List.getElem_toArray, List.getElem_cons_zero, List.getElem_cons_succ, Act.put, List.setIfInBounds_toArray, List.set_cons_zero, List.set_cons_succ])
          refine wpAnyH_take (i := 8) (v := ?_) rfl (by kernel_rfl) (by kernel_rfl) (by kernel_rfl) (fun _ _ _ h => h) (Or.inl ⟨by rfl, ?_⟩) (by assumption) ?_
          rotate_left
          · intro w hSw
            (try dsimp only at hSw)
            go_simp
            (try with_reducible rfl)
          (try simp only [List.getElem_toArray, List.getElem_cons_zero, List.getElem_cons_succ, Act.put, List.setIfInBounds_toArray, List.set_cons_zero, List.set_cons_succ])
          refine wpAnyH_take (i := 9) (v := ?_) rfl (by kernel_rfl) (by kernel_rfl) (by kernel_rfl) (fun _ _ _ h => h) (Or.inl ⟨by rfl, ?_⟩) (by assumption) ?_
          rotate_left
          · intro w hSw
            (try dsimp only at hSw)
            go_simp
            (try with_reducible rfl)
          (try simp only [List.getElem_toArray, List.getElem_cons_zero, List.getElem_cons_succ, Act.put, List.setIfInBounds_toArray, List.set_cons_zero, List.set_cons_succ])
          refine wpAnyH_take (i := 10) (v := ?_) rfl (by kernel_rfl) (by kernel_rfl) (by kernel_rfl) (fun _ _ _ h => h) (Or.inl ⟨by rfl, ?_⟩) (by assumption) ?_
          rotate_left
          · intro w hSw
            (try dsimp only at hSw)
            go_simp
            (try with_reducible rfl)
          (try simp only [List.getElem_toArray, List.getElem_cons_zero, List.getElem_cons_succ, Act.put, List.setIfInBounds_toArray, List.set_cons_zero, List.set_cons_succ])
          refine wpAnyH_ready (rs := [11]) (by kernel_rfl) (by simp) ?_
          refine AllReadyH.cons (o := _) rfl (fun Kc hKc => ?_) AllReadyH.nil
          go_simp
          (go_at_call 14; refine (HPV.out _ F0).mono ?_; rintro e Y2 ⟨n, A', rfl, hp, hT2, bb2⟩; have B2 := B1.trans bb2)
          dsimp only
          refine hKc.out _ _ (HKx.out _ B2) (fun hHeld => ?_)
          clear hKc Kc
          (try simp only [List.getElem_toArray, List.getElem_cons_zero, List.getElem_cons_succ, Act.put, List.setIfInBounds_toArray, List.set_cons_zero, List.set_cons_succ])
          refine wpAnyH_done (by kernel_rfl) ?_ _
          refine NoPanic.normal ?_
          have HT2 := hid hT2
          have HPW := hid (pivS_keeps HPI.out hp)
          have HAZ := hid (allz_piv HPI.out HXA.out hp)
          have HB2 := hid B2
          clear hT2 hp hHeld bb2 z1 z2 HPV F0 B1 B2
          have HXA' : Hid (X.length = ucols A') := hid (by rw [HPW.out.2.1]; exact HXA.out)
          have HAN' : Hid (A'.length = k) := hid (by rw [HPW.out.1]; exact HAN.out)
          have HPI' : Hid (PInv A' (ucols A') (mm (q + 1))) := hid HPW.out.2.2
          have HAW' : Hid (allz A' X A'.length = was) := hid (by rw [HAZ.out]; exact HAW.out)
          have HCL' : Hid (ucols A' ≤ 192) := hid (by rw [HPW.out.2.1]; exact HCL.out)
          have HA64' : Hid (A'.length ≤ 64) := hid (by rw [HAN'.out]; exact HN64.out)
          clear HTn HPI HXA HAN HAW HCL HA64 HPW HAZ HBw
          go_wp2_with fail
          go_loopw [16, 17] (fun sv jv W => ∃ j : Nat, j ≤ k ∧ jv = .int .i64 (j : Int) ∧ sv = .bool (allz A' X j) ∧ Hid (Below Y2.heap.size Y2 W)) (fun _ jv _ => k - (intOf jv).toNat)
          case atStart => exact ⟨0, Nat.zero_le _, rfl, rfl, hid (Below.refl _ _)⟩
          case round =>
            obtain ⟨j, hj, rfl, rfl, HBj⟩ := hrel
            have HTj := hid (HT2.out.below HBj.out)
            have HBB := hid (HB2.out.trans (HBj.out.mono (by have h1 := HB2.out.size; have h2 := HBA.out; omega)))
            go_wp2_with fail
            refine (uRows_any wr tb A' (mm (q + 1) / 9 + 1) HTj.out.tb).mono ?_
            rintro e Y3 ⟨rfl, hY3⟩
            subst hY3
            rw [HAN'.out]
            by_cases hjk : j < k
            · have HZE := hid (show allz A' X (j + 1) = (allz A' X j && decide (dotV (vl (A'.getD j ([], 0, 0))) X X.length = 0)) from rfl)
              have hjA : j < A'.length := by rw [HAN'.out]; exact hjk
              have HZC := hid (zero12_any Y3 tb A' (mm (q + 1)) (mm_ge _) HKT.out HTj.out.tb HPI'.out HCL'.out HA64'.out j hjA (.slice xa X.length xc) X (HXX.out _ HBB.out) HXA'.out (HTBx.out _ HBB.out))
              rw [← getD_at (d := ([], 0, 0)) hjA] at HZC
              generalize decide (dotV (vl (A'.getD j ([], 0, 0))) X X.length = 0) = z at *
              clear hjA
              cases hzk : allz A' X j with
              | true =>
                rw [hzk, Bool.true_and] at HZE
                go_wp2_with fail
                refine HZC.out.mono ?_
                rintro e Y4 ⟨rfl, b4⟩
                have HB4 := hid (chain2 HBj.out b4)
                go_wp2
                go_roundw
                case rel => exact ⟨j + 1, by omega, by go_num, by rw [HZE.out], HB4⟩
                case measure => simp [intOf]; omega
              | false =>
                rw [hzk, Bool.false_and] at HZE
                go_wp2
                go_roundw
                case rel => exact ⟨j + 1, by omega, by go_num, by rw [HZE.out], HBj⟩
                case measure => simp [intOf]; omega
            · obtain rfl : j = k := by omega
              have hjw : allz A' X j = was := by rw [← HAN'.out]; exact HAW'.out
              rw [hjw]
              clear hjw
              go_wp2
              all_goals
                go_roundw
                case rel => exact ⟨q + 1, A', by omega, by go_num, HTj, HPI', HXA', HAN', HAW', HBB⟩
                case measure => simp [intOf]; omega
        · obtain rfl : q = L.length := by omega
          go_wp2_with fail
          refine (uRows_any _ tb A _ HTn.out.tb).mono ?_
          rintro e X9 ⟨rfl, hX9⟩
          subst hX9
          rw [HAN.out]
          go_wp2
          go_ret
          rw [HBA.out]
          exact ⟨rfl, HBw.out⟩
end Go.Proofs.YtgojlegknlalpaaGreatDoor
