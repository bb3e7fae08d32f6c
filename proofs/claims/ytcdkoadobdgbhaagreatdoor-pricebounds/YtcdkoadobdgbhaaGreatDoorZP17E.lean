/- price: the document's Bounds. -/
import Derived.Test.YtcdkoadobdgbhaaGreatDoorZP17T
import Derived.Test.YtcdkoadobdgbhaaGreatDoorZP17B
namespace Go.Proofs.YtcdkoadobdgbhaaGreatDoor
open Go.RowKit
set_option linter.unusedVariables false
set_option maxRecDepth 100000
set_option linter.unusedSimpArgs false

theorem cmpR_zero {p q : Rat} : cmpR p q = 0 ↔ p = q := by
  unfold cmpR
  by_cases h1 : p < q
  · rw [if_pos h1]; exact ⟨fun k => by omega, fun k => by rw [k] at h1; exact absurd h1 Rat.lt_irrefl⟩
  · rw [if_neg h1]
    by_cases h2 : q < p
    · rw [if_pos h2]; exact ⟨fun k => by omega, fun k => by rw [k] at h2; exact absurd h2 Rat.lt_irrefl⟩
    · rw [if_neg h2]; exact ⟨fun _ => Rat.le_antisymm (Rat.not_lt.1 h2) (Rat.not_lt.1 h1), fun _ => rfl⟩
set_option maxHeartbeats 12800000 in
theorem hBounds_any (w : World) (g : Gr) (la : Option Addr) (lc : Nat) (sv xv : Value) (S : List Sp) (X : List ByteArray) (h z : Int) (hl : Lns w (.slice la g.lines.length lc) g.lines) (hs : Sps w sv S) (hx : Strs w xv X) (hsz : ∀ s ∈ X, s.size ≤ 256) (hX : X.length ≤ 256) :
    Calls Tryz.prog 20 #[.agg #[.int .i64 g.zones, .int .i64 g.hours, .slice la g.lines.length lc, .int .i64 g.low, .int .i64 g.high], sv, xv, .int .i64 h, .int .i64 z] w fun e w' => (∃ r, e = retB r ∧ PBnd g S X h z r) ∧ Below w.heap.size w w' := by
  obtain ⟨sa, sc, rfl, sl, sm⟩ := hs.slice
  unfold maxLen at sm
  have b0 := ibel w (Obj.cells #[.int .i64 g.zones, .int .i64 g.hours, .slice la g.lines.length lc, .int .i64 g.low, .int .i64 g.high] 25)
  have x0 := inew w (Obj.cells #[.int .i64 g.zones, .int .i64 g.hours, .slice la g.lines.length lc, .int .i64 g.low, .int .i64 g.high] 25)
  have z0 := ibx x0 0 _ rfl
  have z1 := ibx x0 1 _ rfl
  have z2 := ibx x0 2 _ rfl
  have z3 := ibx x0 3 _ rfl
  have z4 := ibx x0 4 _ rfl
  have HB0 := hid b0
  have HS := hid hs
  have HTK := hid (hTaken0_any (w.alloc (Obj.cells #[.int .i64 g.zones, .int .i64 g.hours, .slice la g.lines.length lc, .int .i64 g.low, .int .i64 g.high] 25)) g la lc _ xv S X (hl.below b0) (hs.below b0) (hx.below b0) hsz hX)
  have HNB := hid (fun (Y : World) (b : Below w.heap.size w Y) => hNumbers_any Y xv X (hx.below b) (fun s hs => Nat.le_trans (hsz s hs) (by decide)) (by omega))
  clear hl hs hx hsz hX b0 x0
  go_enter Tryz.func20, Tryz.ntmps20
  go_wp2_with fail
  refine HTK.out.mono ?_
  rintro e X1 ⟨⟨R, rfl, hR⟩, hb1⟩
  replace z0 := ikc hb1 z0
  replace z1 := ikc hb1 z1
  replace z2 := ikc hb1 z2
  replace z3 := ikc hb1 z3
  replace z4 := ikc hb1 z4
  have HB1 := hid (chain2 HB0.out hb1)
  have HR := hid hR
  clear hb1 HTK HB0 hR
  cases R with
  | false =>
    have HNO := hid (show PBnd g S X h z (0, 0, false) from Or.inr ⟨fun ⟨Q, hq⟩ => (by have := HR.out.2 ⟨hq.2.1, Q, hq.1, hq.2.2.1⟩; cases this), rfl⟩)
    go_wp2_with fail
    go_ret3
    exact ⟨⟨_, rfl, HNO.out⟩, HB1.out⟩
  | true =>
  obtain ⟨hok, Q, hnu, htk⟩ := HR.out.1 rfl
  have HNO := hid (fun (hh : ¬ ((0 ≤ h ∧ h < g.hours) ∧ (0 ≤ z ∧ z < g.zones))) => show PBnd g S X h z (0, 0, false) from Or.inr ⟨fun ⟨Q, hq⟩ => hh hq.2.2.2, rfl⟩)
  have HOK := hid hok
  have HNU := hid hnu
  have HT := hid htk
  clear hok hnu htk HR
  by_cases c1 : h < 0
  · have c1' : decide (h < 0) = true := decide_eq_true c1
    have HNF := hid (HNO.out (fun hh => by omega))
    go_wp2_with fail
    go_ret3
    exact ⟨⟨_, rfl, HNF.out⟩, HB1.out⟩
  have c1' : decide (h < 0) = false := decide_eq_false c1
  by_cases c2 : g.hours ≤ h
  · have c2' : decide (g.hours ≤ h) = true := decide_eq_true c2
    have HNF := hid (HNO.out (fun hh => by omega))
    go_wp2_with fail
    go_ret3
    exact ⟨⟨_, rfl, HNF.out⟩, HB1.out⟩
  have c2' : decide (g.hours ≤ h) = false := decide_eq_false c2
  by_cases c3 : z < 0
  · have c3' : decide (z < 0) = true := decide_eq_true c3
    have HNF := hid (HNO.out (fun hh => by omega))
    go_wp2_with fail
    go_ret3
    exact ⟨⟨_, rfl, HNF.out⟩, HB1.out⟩
  have c3' : decide (z < 0) = false := decide_eq_false c3
  by_cases c4 : g.zones ≤ z
  · have c4' : decide (g.zones ≤ z) = true := decide_eq_true c4
    have HNF := hid (HNO.out (fun hh => by omega))
    go_wp2_with fail
    go_ret3
    exact ⟨⟨_, rfl, HNF.out⟩, HB1.out⟩
  have c4' : decide (g.zones ≤ z) = false := decide_eq_false c4
  have HAS := hid (show Asked g S X h z Q from ⟨HNU.out, HOK.out, HT.out, by omega, by omega⟩)
  clear c1 c2 c3 c4 HNO
  have HNC := hid (HNB.out X1 HB1.out)
  go_wp2_with fail
  refine HNC.out.mono ?_
  rintro e X2 ⟨hr, hb2⟩
  have HB2 := hid (HB1.out.trans (hb2.mono HB1.out.size))
  clear c1' c2' c3' c4' z0 z1 z2 z3 z4 HNC HNB hb2
  rcases hr with ⟨P, tv, C, hnu, rfl, htl⟩ | ⟨hno, rfl⟩
  case inr => exact absurd ⟨Q, HNU.out⟩ hno
  case inl =>
  obtain rfl := HNU.out.uniq hnu
  obtain ⟨ta, tc, rfl, tl, tm⟩ := htl.slice
  have HTL := hid htl
  have HQL := hid HT.out.len
  have HS2 := hid (HS.out.below HB2.out)
  clear hnu htl
  go_wp2_with fail
  go_loopw [13, 14, 17] (fun lo hi i wr => ∃ (k : Nat) (b1 b2 : Int), k ≤ S.length ∧ i = .int .i64 (k : Int) ∧ lo = .int .i64 b1 ∧ hi = .int .i64 b2 ∧ Hid (bndN h z g.low g.high S Q k = (b1, b2)) ∧ Hid (Below X2.heap.size X2 wr)) (fun _ _ i _ => S.length - (intOf i).toNat)
  case atStart => exact ⟨0, _, _, Nat.zero_le _, rfl, rfl, rfl, hid rfl, hid (Below.refl _ _)⟩
  case round =>
    obtain ⟨k, b1, b2, hk, rfl, rfl, rfl, HBD, HBW⟩ := hrel
    have HBR := hid (HB2.out.trans (HBW.out.mono HB2.out.size))
    by_cases hlt : k < S.length
    · have HKQ := hid (show k < Q.length by rw [HQL.out]; exact hlt)
      obtain ⟨sb, so, sc', e, g0, g1, g2, g3, g4, g5, g6⟩ := (HS2.out.below HBW.out).at k hlt
      simp only [Value.slice.injEq] at e
      obtain ⟨rfl, -, rfl⟩ := e
      obtain ⟨gq, cq, y0, y1, y2, y3, e, -, d0, d1, d2, d3, hqi⟩ := (Ls.below (fun h b => h.below b) HTL.out HBW.out).at k HKQ.out
      simp only [Value.slice.injEq] at e
      obtain ⟨rfl, -, rfl⟩ := e
      obtain ⟨q1, q2, q3, q4, q5, q6, q7, q8, ef⟩ := hqi.form
      simp only [Value.agg.injEq, Array.mk.injEq, List.cons.injEq, and_true] at ef
      obtain ⟨rfl, rfl, rfl, rfl⟩ := ef
      have HQT := hid (show In64 S[k].qty from by
        have := stAll_at HOK.out.all hlt
        simp only [stOk, btw, Bool.and_eq_true, decide_eq_true_eq] at this
        exact ⟨by omega, by omega⟩)
      have HNX := hid (bndN_succ (h := h) (z := z) (lo := g.low) (hi := g.high) hlt HKQ.out)
      rw [HBD.out] at HNX
      have hli : (0 : Int) ≤ (k : Int) ∧ (k : Int) < (S.length : Int) := by omega
      have hlq : (k : Int) < (Q.length : Int) := by have := HKQ.out; omega
      have HQI := hid hqi
      clear hqi
      generalize S[k] = s at *
      generalize Q[k] = q at *
      obtain ⟨bu, HBU⟩ : ∃ b, Hid (s.buy = b) := ⟨_, hid rfl⟩
      rw [HBU.out] at g4
      have bS := ibel wr (Obj.cells #[.string s.who, .int .i64 s.seq, .int .i64 s.zone, .int .i64 s.hour, .bool bu, .int .i64 s.qty, .int .i64 s.price] 27)
      have xS := inew wr (Obj.cells #[.string s.who, .int .i64 s.seq, .int .i64 s.zone, .int .i64 s.hour, .bool bu, .int .i64 s.qty, .int .i64 s.price] 27)
      have u0 := ibx xS 0 (.string s.who) rfl
      have u1 := ibx xS 1 (.int .i64 s.seq) rfl
      have u2 := ibx xS 2 (.int .i64 s.zone) rfl
      have u3 := ibx xS 3 (.int .i64 s.hour) rfl
      have u4 := ibx xS 4 (.bool bu) rfl
      have u5 := ibx xS 5 (.int .i64 s.qty) rfl
      have u6 := ibx xS 6 (.int .i64 s.price) rfl
      replace d0 := ikc bS d0
      replace d1 := ikc bS d1
      replace d2 := ikc bS d2
      replace d3 := ikc bS d3
      have HBA := hid bS
      have HBS := hid (HBW.out.trans (bS.mono HBW.out.size))
      by_cases hh : s.hour = h
      case neg =>
        have hh' : (s.hour != h) = true := by simpa using hh
        have HN := hid (show bndN h z g.low g.high S Q (k + 1) = (b1, b2) by rw [HNX.out]; unfold bstep; rw [if_neg (fun e => hh e.1)])
        clear xS bS hh
        go_wp2_with fail
        go_roundw
        case rel => exact ⟨k + 1, _, _, by omega, by go_num, rfl, rfl, HN, HBS⟩
        case measure => simp [intOf]; omega
      have hh' : (s.hour != h) = false := by simp [hh]
      by_cases hz : s.zone = z
      case neg =>
        have hz' : (s.zone != z) = true := by simpa using hz
        have HN := hid (show bndN h z g.low g.high S Q (k + 1) = (b1, b2) by rw [HNX.out]; unfold bstep; rw [if_neg (fun e => hz e.2)])
        clear xS bS hh hz
        go_wp2_with fail
        go_roundw
        case rel => exact ⟨k + 1, _, _, by omega, by go_num, rfl, rfl, HN, HBS⟩
        case measure => simp [intOf]; omega
      have hz' : (s.zone != z) = false := by simp [hz]
      have HSAME : Hid (s.hour = h ∧ s.zone = z) := hid ⟨hh, hz⟩
      have HSI := hid (t_sign (wr.alloc (Obj.cells #[.string s.who, .int .i64 s.seq, .int .i64 s.zone, .int .i64 s.hour, .bool bu, .int .i64 s.qty, .int .i64 s.price] 27)) _ q 5100 (by decide) (HQI.out.below bS))
      have HC := hid (fun (Y : World) (b : Below (wr.alloc (Obj.cells #[.string s.who, .int .i64 s.seq, .int .i64 s.zone, .int .i64 s.hour, .bool bu, .int .i64 s.qty, .int .i64 s.price] 27)).heap.size (wr.alloc (Obj.cells #[.string s.who, .int .i64 s.seq, .int .i64 s.zone, .int .i64 s.hour, .bool bu, .int .i64 s.qty, .int .i64 s.price] 27)) Y) => (⟨ikc b d0, ikc b d1, ikc b d2, ikc b d3, ikc b u5⟩ : Y.cell? ⟨gq, k * 4, none⟩ = some (.bool q1) ∧ Y.cell? ⟨gq, k * 4 + 1, none⟩ = some (.slice q2 q3 q4) ∧ Y.cell? ⟨gq, k * 4 + 2, none⟩ = some (.bool q5) ∧ Y.cell? ⟨gq, k * 4 + 3, none⟩ = some (.slice q6 q7 q8) ∧ Y.cell? ⟨wr.heap.size, 5, none⟩ = some (.int .i64 s.qty)))
      obtain ⟨sg, HSGE⟩ : ∃ x, Hid (sgnR q = x) := ⟨_, hid rfl⟩
      obtain ⟨cm, HCME⟩ : ∃ x, Hid (cmpR q (s.qty : Rat) = x) := ⟨_, hid rfl⟩
      have hsgr := HSGE.out
      have hcmr := HCME.out
      clear xS bS hh hz
      by_cases h1 : 0 < sg
      · have h1' : decide (0 < sg) = true := decide_eq_true h1
        have HSM : Hid ((0 < q) = True) := hid (by simp; exact sgnR_pos.1 (by rw [hsgr]; exact h1))
        by_cases h2 : cm = 0
        · have h2' : (cm == 0) = true := by simpa using h2
          have HAL : Hid ((q ≠ (s.qty : Rat)) = False) := hid (by simp only [eq_iff_iff, iff_false, ne_eq, Decidable.not_not]; exact cmpR_zero.1 (by rw [hcmr]; exact h2))
          go_wp2_with fail
          refine HSI.out.mono ?_
          rintro e Y1 ⟨he, hbs⟩
          rw [hsgr] at he
          subst he
          have HBY1 := hid (chain2 HBA.out hbs)
          have HBZ := hid (hbs)
          go_wp2_with fail
          have F1 : Below Y1.heap.size Y1 Y1.drew := (Below.refl _ _).drew
          refine wp_region_noPanic ?_
          refine wp_region_held_drew (S := fun Y => Y.cell? ⟨gq, k * 4, none⟩ = some (.bool q1) ∧ Y.cell? ⟨gq, k * 4 + 1, none⟩ = some (.slice q2 q3 q4) ∧ Y.cell? ⟨gq, k * 4 + 2, none⟩ = some (.bool q5) ∧ Y.cell? ⟨gq, k * 4 + 3, none⟩ = some (.slice q6 q7 q8) ∧ Y.cell? ⟨wr.heap.size, 5, none⟩ = some (.int .i64 s.qty)) (by kernel_rfl) (HC.out _ (chain2 HBZ.out F1)) (fun hHeld => ?_)
          refine wpAnyH_take (i := 0) (v := ?_) rfl (by kernel_rfl) (by kernel_rfl) (by kernel_rfl) (fun _ _ _ h => h) (Or.inl ⟨by rfl, ?_⟩) (by assumption) ?_
          rotate_left
          · intro w hSw
            (try dsimp only at hSw)
            go_simp
            (try with_reducible rfl)
          (try simp only [List.getElem_toArray, List.getElem_cons_zero, List.getElem_cons_succ, Act.put, List.setIfInBounds_toArray, List.set_cons_zero, List.set_cons_succ])
          refine wpAnyH_take (i := 1) (v := ?_) rfl (by kernel_rfl) (by kernel_rfl) (by kernel_rfl) (fun _ _ _ h => h) (Or.inl ⟨by rfl, ?_⟩) (by assumption) ?_
          rotate_left
          · intro w hSw
            (try dsimp only at hSw)
            go_simp
            (try with_reducible rfl)
          (try simp only [List.getElem_toArray, List.getElem_cons_zero, List.getElem_cons_succ, Act.put, List.setIfInBounds_toArray, List.set_cons_zero, List.set_cons_succ])
          refine wpAnyH_take (i := 2) (v := ?_) rfl (by kernel_rfl) (by kernel_rfl) (by kernel_rfl) (fun _ _ _ h => h) (Or.inl ⟨by rfl, ?_⟩) (by assumption) ?_
          rotate_left
          · intro w hSw
            (try dsimp only at hSw)
            go_simp
            (try with_reducible rfl)
          (try simp only [List.getElem_toArray, List.getElem_cons_zero, List.getElem_cons_succ, Act.put, List.setIfInBounds_toArray, List.set_cons_zero, List.set_cons_succ])
          refine wpAnyH_take (i := 3) (v := ?_) rfl (by kernel_rfl) (by kernel_rfl) (by kernel_rfl) (fun _ _ _ h => h) (Or.inl ⟨by rfl, ?_⟩) (by assumption) ?_
          rotate_left
          · intro w hSw
            (try dsimp only at hSw)
            go_simp
            (try with_reducible rfl)
          (try simp only [List.getElem_toArray, List.getElem_cons_zero, List.getElem_cons_succ, Act.put, List.setIfInBounds_toArray, List.set_cons_zero, List.set_cons_succ])
          refine wpAnyH_take (i := 4) (v := ?_) rfl (by kernel_rfl) (by kernel_rfl) (by kernel_rfl) (fun _ _ _ h => h) (Or.inl ⟨by rfl, ?_⟩) (by assumption) ?_
          rotate_left
          · intro w hSw
            (try dsimp only at hSw)
            go_simp
            (try with_reducible rfl)
          (try simp only [List.getElem_toArray, List.getElem_cons_zero, List.getElem_cons_succ, Act.put, List.setIfInBounds_toArray, List.set_cons_zero, List.set_cons_succ])
          refine wpAnyH_take (i := 5) (v := ?_) rfl (by kernel_rfl) (by kernel_rfl) (by kernel_rfl) (fun _ _ _ h => h) (Or.inl ⟨by rfl, ?_⟩) (by assumption) ?_
          rotate_left
          · intro w hSw
            (try dsimp only at hSw)
            go_simp
            (try with_reducible rfl)
          (try simp only [List.getElem_toArray, List.getElem_cons_zero, List.getElem_cons_succ, Act.put, List.setIfInBounds_toArray, List.set_cons_zero, List.set_cons_succ])
          refine wpAnyH_ready (rs := [6]) (by kernel_rfl) (by simp) ?_
          refine AllReadyH.cons (o := _) rfl (fun Kc hKc => ?_) AllReadyH.nil
          go_simp
          go_at_call 8
          refine (t_of _ s.qty HQT.out.1 HQT.out.2).mono ?_
          rintro e w' ⟨v1, rfl, nv1, hb⟩
          have F2 := chain2 F1 hb
          replace nv1 := nv1.mono (show 3 ≤ 5100 by decide)
          dsimp only
          refine hKc.out _ _ (HC.out _ (chain2 HBZ.out F2)) (fun hHeld => ?_)
          clear hKc Kc
          (try simp only [List.getElem_toArray, List.getElem_cons_zero, List.getElem_cons_succ, Act.put, List.setIfInBounds_toArray, List.set_cons_zero, List.set_cons_succ])
          refine wpAnyH_ready (rs := [7]) (by kernel_rfl) (by simp) ?_
          refine AllReadyH.cons (o := _) rfl (fun Kc hKc => ?_) AllReadyH.nil
          go_simp
          go_at_call 45
          refine (t_cmp _ _ _ q (s.qty : Rat) 5100 (by decide) (HQI.out.below (chain2 HBY1.out F2)) nv1).mono ?_
          rintro e w' ⟨he, hb⟩
          rw [hcmr] at he
          subst he
          have F3 := chain2 F2 hb
          dsimp only
          refine hKc.out _ _ (HC.out _ (chain2 HBZ.out F3)) (fun hHeld => ?_)
          clear hKc Kc
          (try simp only [List.getElem_toArray, List.getElem_cons_zero, List.getElem_cons_succ, Act.put, List.setIfInBounds_toArray, List.set_cons_zero, List.set_cons_succ])
          refine wpAnyH_take (i := 8) (v := ?_) rfl (by kernel_rfl) (by kernel_rfl) (by kernel_rfl) (fun _ _ _ h => h) (Or.inl ⟨by rfl, ?_⟩) (by assumption) ?_
          rotate_left
          · intro w hSw
            (try dsimp only at hSw)
            go_simp
            (try with_reducible rfl)
          (try simp only [List.getElem_toArray, List.getElem_cons_zero, List.getElem_cons_succ, Act.put, List.setIfInBounds_toArray, List.set_cons_zero, List.set_cons_succ])
          refine wpAnyH_take (i := 9) (v := ?_) rfl (by kernel_rfl) (by kernel_rfl) (by kernel_rfl) (fun _ _ _ h => h) (Or.inl ⟨by rfl, ?_⟩) (by assumption) ?_
          rotate_left
          · intro w hSw
            (try dsimp only at hSw)
            go_simp
            (try with_reducible rfl)
          (try simp only [List.getElem_toArray, List.getElem_cons_zero, List.getElem_cons_succ, Act.put, List.setIfInBounds_toArray, List.set_cons_zero, List.set_cons_succ])
          refine wpAnyH_done (by kernel_rfl) ?_ _
          refine NoPanic.normal ?_

          have HBY3 := hid (chain2 HBZ.out F3)
          have HBN := hid (HBW.out.trans ((chain2 HBY1.out F3).mono HBW.out.size))
          clear hHeld F1 F2 F3 nv1 hb hbs h1 h2 hsgr hcmr
          cases bu with
          | true =>
            have HN := hid (show bndN h z g.low g.high S Q (k + 1) = (b1, (min b2 s.price)) by
              rw [HNX.out]
              unfold bstep
              rw [if_pos HSAME.out]
              simp only [HBU.out, HSM.out, HAL.out]
              simp)
            have u6' := ikc HBY3.out u6
            have u4' := ikc HBY3.out u4
            obtain ⟨lo', HLO⟩ : ∃ x, Hid (b1 = x) := ⟨_, hid rfl⟩
            obtain ⟨hi', HHI⟩ : ∃ x, Hid ((min b2 s.price) = x) := ⟨_, hid rfl⟩
            rw [HLO.out, HHI.out] at HN
            have hm1 : b1 = lo' := HLO.out
            clear HLO
            subst hm1
            have hm3 : min b2 s.price = hi' := HHI.out
            have hm4 : (if s.price < b2 then s.price else b2) = hi' := by rw [← HHI.out]; split <;> omega
            clear u4 u6
            go_wp2_with fail
            go_roundw
            case rel => exact ⟨k + 1, _, _, by omega, by go_num, rfl, rfl, HN, HBN⟩
            case measure => simp [intOf]; omega
          | false =>
            have HN := hid (show bndN h z g.low g.high S Q (k + 1) = ((max b1 s.price), b2) by
              rw [HNX.out]
              unfold bstep
              rw [if_pos HSAME.out]
              simp only [HBU.out, HSM.out, HAL.out]
              simp)
            have u6' := ikc HBY3.out u6
            have u4' := ikc HBY3.out u4
            obtain ⟨lo', HLO⟩ : ∃ x, Hid ((max b1 s.price) = x) := ⟨_, hid rfl⟩
            obtain ⟨hi', HHI⟩ : ∃ x, Hid (b2 = x) := ⟨_, hid rfl⟩
            rw [HLO.out, HHI.out] at HN
            have hm1 : max b1 s.price = lo' := HLO.out
            have hm2 : (if b1 < s.price then s.price else b1) = lo' := by rw [← HLO.out]; split <;> omega
            have hm3 : b2 = hi' := HHI.out
            clear HHI
            subst hm3
            clear u4 u6
            go_wp2_with fail
            go_roundw
            case rel => exact ⟨k + 1, _, _, by omega, by go_num, rfl, rfl, HN, HBN⟩
            case measure => simp [intOf]; omega
        · have h2' : (cm == 0) = false := by simpa using h2
          have HAL : Hid ((q ≠ (s.qty : Rat)) = True) := hid (by simp only [eq_iff_iff, iff_true, ne_eq]; exact fun hh => h2 (by rw [← hcmr]; exact cmpR_zero.2 hh))
          go_wp2_with fail
          refine HSI.out.mono ?_
          rintro e Y1 ⟨he, hbs⟩
          rw [hsgr] at he
          subst he
          have HBY1 := hid (chain2 HBA.out hbs)
          have HBZ := hid (hbs)
          go_wp2_with fail
          have F1 : Below Y1.heap.size Y1 Y1.drew := (Below.refl _ _).drew
          refine wp_region_noPanic ?_
          refine wp_region_held_drew (S := fun Y => Y.cell? ⟨gq, k * 4, none⟩ = some (.bool q1) ∧ Y.cell? ⟨gq, k * 4 + 1, none⟩ = some (.slice q2 q3 q4) ∧ Y.cell? ⟨gq, k * 4 + 2, none⟩ = some (.bool q5) ∧ Y.cell? ⟨gq, k * 4 + 3, none⟩ = some (.slice q6 q7 q8) ∧ Y.cell? ⟨wr.heap.size, 5, none⟩ = some (.int .i64 s.qty)) (by kernel_rfl) (HC.out _ (chain2 HBZ.out F1)) (fun hHeld => ?_)
          refine wpAnyH_take (i := 0) (v := ?_) rfl (by kernel_rfl) (by kernel_rfl) (by kernel_rfl) (fun _ _ _ h => h) (Or.inl ⟨by rfl, ?_⟩) (by assumption) ?_
          rotate_left
          · intro w hSw
            (try dsimp only at hSw)
            go_simp
            (try with_reducible rfl)
          (try simp only [List.getElem_toArray, List.getElem_cons_zero, List.getElem_cons_succ, Act.put, List.setIfInBounds_toArray, List.set_cons_zero, List.set_cons_succ])
          refine wpAnyH_take (i := 1) (v := ?_) rfl (by kernel_rfl) (by kernel_rfl) (by kernel_rfl) (fun _ _ _ h => h) (Or.inl ⟨by rfl, ?_⟩) (by assumption) ?_
          rotate_left
          · intro w hSw
            (try dsimp only at hSw)
            go_simp
            (try with_reducible rfl)
          (try simp only [List.getElem_toArray, List.getElem_cons_zero, List.getElem_cons_succ, Act.put, List.setIfInBounds_toArray, List.set_cons_zero, List.set_cons_succ])
          refine wpAnyH_take (i := 2) (v := ?_) rfl (by kernel_rfl) (by kernel_rfl) (by kernel_rfl) (fun _ _ _ h => h) (Or.inl ⟨by rfl, ?_⟩) (by assumption) ?_
          rotate_left
          · intro w hSw
            (try dsimp only at hSw)
            go_simp
            (try with_reducible rfl)
          (try simp only [List.getElem_toArray, List.getElem_cons_zero, List.getElem_cons_succ, Act.put, List.setIfInBounds_toArray, List.set_cons_zero, List.set_cons_succ])
          refine wpAnyH_take (i := 3) (v := ?_) rfl (by kernel_rfl) (by kernel_rfl) (by kernel_rfl) (fun _ _ _ h => h) (Or.inl ⟨by rfl, ?_⟩) (by assumption) ?_
          rotate_left
          · intro w hSw
            (try dsimp only at hSw)
            go_simp
            (try with_reducible rfl)
          (try simp only [List.getElem_toArray, List.getElem_cons_zero, List.getElem_cons_succ, Act.put, List.setIfInBounds_toArray, List.set_cons_zero, List.set_cons_succ])
          refine wpAnyH_take (i := 4) (v := ?_) rfl (by kernel_rfl) (by kernel_rfl) (by kernel_rfl) (fun _ _ _ h => h) (Or.inl ⟨by rfl, ?_⟩) (by assumption) ?_
          rotate_left
          · intro w hSw
            (try dsimp only at hSw)
            go_simp
            (try with_reducible rfl)
          (try simp only [List.getElem_toArray, List.getElem_cons_zero, List.getElem_cons_succ, Act.put, List.setIfInBounds_toArray, List.set_cons_zero, List.set_cons_succ])
          refine wpAnyH_take (i := 5) (v := ?_) rfl (by kernel_rfl) (by kernel_rfl) (by kernel_rfl) (fun _ _ _ h => h) (Or.inl ⟨by rfl, ?_⟩) (by assumption) ?_
          rotate_left
          · intro w hSw
            (try dsimp only at hSw)
            go_simp
            (try with_reducible rfl)
          (try simp only [List.getElem_toArray, List.getElem_cons_zero, List.getElem_cons_succ, Act.put, List.setIfInBounds_toArray, List.set_cons_zero, List.set_cons_succ])
          refine wpAnyH_ready (rs := [6]) (by kernel_rfl) (by simp) ?_
          refine AllReadyH.cons (o := _) rfl (fun Kc hKc => ?_) AllReadyH.nil
          go_simp
          go_at_call 8
          refine (t_of _ s.qty HQT.out.1 HQT.out.2).mono ?_
          rintro e w' ⟨v1, rfl, nv1, hb⟩
          have F2 := chain2 F1 hb
          replace nv1 := nv1.mono (show 3 ≤ 5100 by decide)
          dsimp only
          refine hKc.out _ _ (HC.out _ (chain2 HBZ.out F2)) (fun hHeld => ?_)
          clear hKc Kc
          (try simp only [List.getElem_toArray, List.getElem_cons_zero, List.getElem_cons_succ, Act.put, List.setIfInBounds_toArray, List.set_cons_zero, List.set_cons_succ])
          refine wpAnyH_ready (rs := [7]) (by kernel_rfl) (by simp) ?_
          refine AllReadyH.cons (o := _) rfl (fun Kc hKc => ?_) AllReadyH.nil
          go_simp
          go_at_call 45
          refine (t_cmp _ _ _ q (s.qty : Rat) 5100 (by decide) (HQI.out.below (chain2 HBY1.out F2)) nv1).mono ?_
          rintro e w' ⟨he, hb⟩
          rw [hcmr] at he
          subst he
          have F3 := chain2 F2 hb
          dsimp only
          refine hKc.out _ _ (HC.out _ (chain2 HBZ.out F3)) (fun hHeld => ?_)
          clear hKc Kc
          (try simp only [List.getElem_toArray, List.getElem_cons_zero, List.getElem_cons_succ, Act.put, List.setIfInBounds_toArray, List.set_cons_zero, List.set_cons_succ])
          refine wpAnyH_take (i := 8) (v := ?_) rfl (by kernel_rfl) (by kernel_rfl) (by kernel_rfl) (fun _ _ _ h => h) (Or.inl ⟨by rfl, ?_⟩) (by assumption) ?_
          rotate_left
          · intro w hSw
            (try dsimp only at hSw)
            go_simp
            (try with_reducible rfl)
          (try simp only [List.getElem_toArray, List.getElem_cons_zero, List.getElem_cons_succ, Act.put, List.setIfInBounds_toArray, List.set_cons_zero, List.set_cons_succ])
          refine wpAnyH_take (i := 9) (v := ?_) rfl (by kernel_rfl) (by kernel_rfl) (by kernel_rfl) (fun _ _ _ h => h) (Or.inl ⟨by rfl, ?_⟩) (by assumption) ?_
          rotate_left
          · intro w hSw
            (try dsimp only at hSw)
            go_simp
            (try with_reducible rfl)
          (try simp only [List.getElem_toArray, List.getElem_cons_zero, List.getElem_cons_succ, Act.put, List.setIfInBounds_toArray, List.set_cons_zero, List.set_cons_succ])
          refine wpAnyH_done (by kernel_rfl) ?_ _
          refine NoPanic.normal ?_

          have HBY3 := hid (chain2 HBZ.out F3)
          have HBN := hid (HBW.out.trans ((chain2 HBY1.out F3).mono HBW.out.size))
          clear hHeld F1 F2 F3 nv1 hb hbs h1 h2 hsgr hcmr
          cases bu with
          | true =>
            have HN := hid (show bndN h z g.low g.high S Q (k + 1) = ((max b1 s.price), (min b2 s.price)) by
              rw [HNX.out]
              unfold bstep
              rw [if_pos HSAME.out]
              simp only [HBU.out, HSM.out, HAL.out]
              simp)
            have u6' := ikc HBY3.out u6
            have u4' := ikc HBY3.out u4
            obtain ⟨lo', HLO⟩ : ∃ x, Hid ((max b1 s.price) = x) := ⟨_, hid rfl⟩
            obtain ⟨hi', HHI⟩ : ∃ x, Hid ((min b2 s.price) = x) := ⟨_, hid rfl⟩
            rw [HLO.out, HHI.out] at HN
            have hm1 : max b1 s.price = lo' := HLO.out
            have hm2 : (if b1 < s.price then s.price else b1) = lo' := by rw [← HLO.out]; split <;> omega
            have hm3 : min b2 s.price = hi' := HHI.out
            have hm4 : (if s.price < b2 then s.price else b2) = hi' := by rw [← HHI.out]; split <;> omega
            clear u4 u6
            go_wp2_with fail
            go_roundw
            case rel => exact ⟨k + 1, _, _, by omega, by go_num, rfl, rfl, HN, HBN⟩
            case measure => simp [intOf]; omega
          | false =>
            have HN := hid (show bndN h z g.low g.high S Q (k + 1) = ((max b1 s.price), (min b2 s.price)) by
              rw [HNX.out]
              unfold bstep
              rw [if_pos HSAME.out]
              simp only [HBU.out, HSM.out, HAL.out]
              simp)
            have u6' := ikc HBY3.out u6
            have u4' := ikc HBY3.out u4
            obtain ⟨lo', HLO⟩ : ∃ x, Hid ((max b1 s.price) = x) := ⟨_, hid rfl⟩
            obtain ⟨hi', HHI⟩ : ∃ x, Hid ((min b2 s.price) = x) := ⟨_, hid rfl⟩
            rw [HLO.out, HHI.out] at HN
            have hm1 : max b1 s.price = lo' := HLO.out
            have hm2 : (if b1 < s.price then s.price else b1) = lo' := by rw [← HLO.out]; split <;> omega
            have hm3 : min b2 s.price = hi' := HHI.out
            have hm4 : (if s.price < b2 then s.price else b2) = hi' := by rw [← HHI.out]; split <;> omega
            clear u4 u6
            go_wp2_with fail
            go_roundw
            case rel => exact ⟨k + 1, _, _, by omega, by go_num, rfl, rfl, HN, HBN⟩
            case measure => simp [intOf]; omega
      · have h1' : decide (0 < sg) = false := decide_eq_false h1
        have HSM : Hid ((0 < q) = False) := hid (by simp only [eq_iff_iff, iff_false]; exact fun hh => h1 (by rw [← hsgr]; exact sgnR_pos.2 hh))
        by_cases h2 : cm = 0
        · have h2' : (cm == 0) = true := by simpa using h2
          have HAL : Hid ((q ≠ (s.qty : Rat)) = False) := hid (by simp only [eq_iff_iff, iff_false, ne_eq, Decidable.not_not]; exact cmpR_zero.1 (by rw [hcmr]; exact h2))
          go_wp2_with fail
          refine HSI.out.mono ?_
          rintro e Y1 ⟨he, hbs⟩
          rw [hsgr] at he
          subst he
          have HBY1 := hid (chain2 HBA.out hbs)
          have HBZ := hid (hbs)
          go_wp2_with fail
          have F1 : Below Y1.heap.size Y1 Y1.drew := (Below.refl _ _).drew
          refine wp_region_noPanic ?_
          refine wp_region_held_drew (S := fun Y => Y.cell? ⟨gq, k * 4, none⟩ = some (.bool q1) ∧ Y.cell? ⟨gq, k * 4 + 1, none⟩ = some (.slice q2 q3 q4) ∧ Y.cell? ⟨gq, k * 4 + 2, none⟩ = some (.bool q5) ∧ Y.cell? ⟨gq, k * 4 + 3, none⟩ = some (.slice q6 q7 q8) ∧ Y.cell? ⟨wr.heap.size, 5, none⟩ = some (.int .i64 s.qty)) (by kernel_rfl) (HC.out _ (chain2 HBZ.out F1)) (fun hHeld => ?_)
          refine wpAnyH_take (i := 0) (v := ?_) rfl (by kernel_rfl) (by kernel_rfl) (by kernel_rfl) (fun _ _ _ h => h) (Or.inl ⟨by rfl, ?_⟩) (by assumption) ?_
          rotate_left
          · intro w hSw
            (try dsimp only at hSw)
            go_simp
            (try with_reducible rfl)
          (try simp only [List.getElem_toArray, List.getElem_cons_zero, List.getElem_cons_succ, Act.put, List.setIfInBounds_toArray, List.set_cons_zero, List.set_cons_succ])
          refine wpAnyH_take (i := 1) (v := ?_) rfl (by kernel_rfl) (by kernel_rfl) (by kernel_rfl) (fun _ _ _ h => h) (Or.inl ⟨by rfl, ?_⟩) (by assumption) ?_
          rotate_left
          · intro w hSw
            (try dsimp only at hSw)
            go_simp
            (try with_reducible rfl)
          (try simp only [List.getElem_toArray, List.getElem_cons_zero, List.getElem_cons_succ, Act.put, List.setIfInBounds_toArray, List.set_cons_zero, List.set_cons_succ])
          refine wpAnyH_take (i := 2) (v := ?_) rfl (by kernel_rfl) (by kernel_rfl) (by kernel_rfl) (fun _ _ _ h => h) (Or.inl ⟨by rfl, ?_⟩) (by assumption) ?_
          rotate_left
          · intro w hSw
            (try dsimp only at hSw)
            go_simp
            (try with_reducible rfl)
          (try simp only [List.getElem_toArray, List.getElem_cons_zero, List.getElem_cons_succ, Act.put, List.setIfInBounds_toArray, List.set_cons_zero, List.set_cons_succ])
          refine wpAnyH_take (i := 3) (v := ?_) rfl (by kernel_rfl) (by kernel_rfl) (by kernel_rfl) (fun _ _ _ h => h) (Or.inl ⟨by rfl, ?_⟩) (by assumption) ?_
          rotate_left
          · intro w hSw
            (try dsimp only at hSw)
            go_simp
            (try with_reducible rfl)
          (try simp only [List.getElem_toArray, List.getElem_cons_zero, List.getElem_cons_succ, Act.put, List.setIfInBounds_toArray, List.set_cons_zero, List.set_cons_succ])
          refine wpAnyH_take (i := 4) (v := ?_) rfl (by kernel_rfl) (by kernel_rfl) (by kernel_rfl) (fun _ _ _ h => h) (Or.inl ⟨by rfl, ?_⟩) (by assumption) ?_
          rotate_left
          · intro w hSw
            (try dsimp only at hSw)
            go_simp
            (try with_reducible rfl)
          (try simp only [List.getElem_toArray, List.getElem_cons_zero, List.getElem_cons_succ, Act.put, List.setIfInBounds_toArray, List.set_cons_zero, List.set_cons_succ])
          refine wpAnyH_take (i := 5) (v := ?_) rfl (by kernel_rfl) (by kernel_rfl) (by kernel_rfl) (fun _ _ _ h => h) (Or.inl ⟨by rfl, ?_⟩) (by assumption) ?_
          rotate_left
          · intro w hSw
            (try dsimp only at hSw)
            go_simp
            (try with_reducible rfl)
          (try simp only [List.getElem_toArray, List.getElem_cons_zero, List.getElem_cons_succ, Act.put, List.setIfInBounds_toArray, List.set_cons_zero, List.set_cons_succ])
          refine wpAnyH_ready (rs := [6]) (by kernel_rfl) (by simp) ?_
          refine AllReadyH.cons (o := _) rfl (fun Kc hKc => ?_) AllReadyH.nil
          go_simp
          go_at_call 8
          refine (t_of _ s.qty HQT.out.1 HQT.out.2).mono ?_
          rintro e w' ⟨v1, rfl, nv1, hb⟩
          have F2 := chain2 F1 hb
          replace nv1 := nv1.mono (show 3 ≤ 5100 by decide)
          dsimp only
          refine hKc.out _ _ (HC.out _ (chain2 HBZ.out F2)) (fun hHeld => ?_)
          clear hKc Kc
          (try simp only [List.getElem_toArray, List.getElem_cons_zero, List.getElem_cons_succ, Act.put, List.setIfInBounds_toArray, List.set_cons_zero, List.set_cons_succ])
          refine wpAnyH_ready (rs := [7]) (by kernel_rfl) (by simp) ?_
          refine AllReadyH.cons (o := _) rfl (fun Kc hKc => ?_) AllReadyH.nil
          go_simp
          go_at_call 45
          refine (t_cmp _ _ _ q (s.qty : Rat) 5100 (by decide) (HQI.out.below (chain2 HBY1.out F2)) nv1).mono ?_
          rintro e w' ⟨he, hb⟩
          rw [hcmr] at he
          subst he
          have F3 := chain2 F2 hb
          dsimp only
          refine hKc.out _ _ (HC.out _ (chain2 HBZ.out F3)) (fun hHeld => ?_)
          clear hKc Kc
          (try simp only [List.getElem_toArray, List.getElem_cons_zero, List.getElem_cons_succ, Act.put, List.setIfInBounds_toArray, List.set_cons_zero, List.set_cons_succ])
          refine wpAnyH_take (i := 8) (v := ?_) rfl (by kernel_rfl) (by kernel_rfl) (by kernel_rfl) (fun _ _ _ h => h) (Or.inl ⟨by rfl, ?_⟩) (by assumption) ?_
          rotate_left
          · intro w hSw
            (try dsimp only at hSw)
            go_simp
            (try with_reducible rfl)
          (try simp only [List.getElem_toArray, List.getElem_cons_zero, List.getElem_cons_succ, Act.put, List.setIfInBounds_toArray, List.set_cons_zero, List.set_cons_succ])
          refine wpAnyH_take (i := 9) (v := ?_) rfl (by kernel_rfl) (by kernel_rfl) (by kernel_rfl) (fun _ _ _ h => h) (Or.inl ⟨by rfl, ?_⟩) (by assumption) ?_
          rotate_left
          · intro w hSw
            (try dsimp only at hSw)
            go_simp
            (try with_reducible rfl)
          (try simp only [List.getElem_toArray, List.getElem_cons_zero, List.getElem_cons_succ, Act.put, List.setIfInBounds_toArray, List.set_cons_zero, List.set_cons_succ])
          refine wpAnyH_done (by kernel_rfl) ?_ _
          refine NoPanic.normal ?_

          have HBY3 := hid (chain2 HBZ.out F3)
          have HBN := hid (HBW.out.trans ((chain2 HBY1.out F3).mono HBW.out.size))
          clear hHeld F1 F2 F3 nv1 hb hbs h1 h2 hsgr hcmr
          cases bu with
          | true =>
            have HN := hid (show bndN h z g.low g.high S Q (k + 1) = (b1, b2) by
              rw [HNX.out]
              unfold bstep
              rw [if_pos HSAME.out]
              simp only [HBU.out, HSM.out, HAL.out]
              simp)
            have u6' := ikc HBY3.out u6
            have u4' := ikc HBY3.out u4
            obtain ⟨lo', HLO⟩ : ∃ x, Hid (b1 = x) := ⟨_, hid rfl⟩
            obtain ⟨hi', HHI⟩ : ∃ x, Hid (b2 = x) := ⟨_, hid rfl⟩
            rw [HLO.out, HHI.out] at HN
            have hm1 : b1 = lo' := HLO.out
            clear HLO
            subst hm1
            have hm3 : b2 = hi' := HHI.out
            clear HHI
            subst hm3
            clear u4 u6
            go_wp2_with fail
            go_roundw
            case rel => exact ⟨k + 1, _, _, by omega, by go_num, rfl, rfl, HN, HBN⟩
            case measure => simp [intOf]; omega
          | false =>
            have HN := hid (show bndN h z g.low g.high S Q (k + 1) = (b1, b2) by
              rw [HNX.out]
              unfold bstep
              rw [if_pos HSAME.out]
              simp only [HBU.out, HSM.out, HAL.out]
              simp)
            have u6' := ikc HBY3.out u6
            have u4' := ikc HBY3.out u4
            obtain ⟨lo', HLO⟩ : ∃ x, Hid (b1 = x) := ⟨_, hid rfl⟩
            obtain ⟨hi', HHI⟩ : ∃ x, Hid (b2 = x) := ⟨_, hid rfl⟩
            rw [HLO.out, HHI.out] at HN
            have hm1 : b1 = lo' := HLO.out
            clear HLO
            subst hm1
            have hm3 : b2 = hi' := HHI.out
            clear HHI
            subst hm3
            clear u4 u6
            go_wp2_with fail
            go_roundw
            case rel => exact ⟨k + 1, _, _, by omega, by go_num, rfl, rfl, HN, HBN⟩
            case measure => simp [intOf]; omega
        · have h2' : (cm == 0) = false := by simpa using h2
          have HAL : Hid ((q ≠ (s.qty : Rat)) = True) := hid (by simp only [eq_iff_iff, iff_true, ne_eq]; exact fun hh => h2 (by rw [← hcmr]; exact cmpR_zero.2 hh))
          go_wp2_with fail
          refine HSI.out.mono ?_
          rintro e Y1 ⟨he, hbs⟩
          rw [hsgr] at he
          subst he
          have HBY1 := hid (chain2 HBA.out hbs)
          have HBZ := hid (hbs)
          go_wp2_with fail
          have F1 : Below Y1.heap.size Y1 Y1.drew := (Below.refl _ _).drew
          refine wp_region_noPanic ?_
          refine wp_region_held_drew (S := fun Y => Y.cell? ⟨gq, k * 4, none⟩ = some (.bool q1) ∧ Y.cell? ⟨gq, k * 4 + 1, none⟩ = some (.slice q2 q3 q4) ∧ Y.cell? ⟨gq, k * 4 + 2, none⟩ = some (.bool q5) ∧ Y.cell? ⟨gq, k * 4 + 3, none⟩ = some (.slice q6 q7 q8) ∧ Y.cell? ⟨wr.heap.size, 5, none⟩ = some (.int .i64 s.qty)) (by kernel_rfl) (HC.out _ (chain2 HBZ.out F1)) (fun hHeld => ?_)
          refine wpAnyH_take (i := 0) (v := ?_) rfl (by kernel_rfl) (by kernel_rfl) (by kernel_rfl) (fun _ _ _ h => h) (Or.inl ⟨by rfl, ?_⟩) (by assumption) ?_
          rotate_left
          · intro w hSw
            (try dsimp only at hSw)
            go_simp
            (try with_reducible rfl)
          (try simp only [List.getElem_toArray, List.getElem_cons_zero, List.getElem_cons_succ, Act.put, List.setIfInBounds_toArray, List.set_cons_zero, List.set_cons_succ])
          refine wpAnyH_take (i := 1) (v := ?_) rfl (by kernel_rfl) (by kernel_rfl) (by kernel_rfl) (fun _ _ _ h => h) (Or.inl ⟨by rfl, ?_⟩) (by assumption) ?_
          rotate_left
          · intro w hSw
            (try dsimp only at hSw)
            go_simp
            (try with_reducible rfl)
          (try simp only [List.getElem_toArray, List.getElem_cons_zero, List.getElem_cons_succ, Act.put, List.setIfInBounds_toArray, List.set_cons_zero, List.set_cons_succ])
          refine wpAnyH_take (i := 2) (v := ?_) rfl (by kernel_rfl) (by kernel_rfl) (by kernel_rfl) (fun _ _ _ h => h) (Or.inl ⟨by rfl, ?_⟩) (by assumption) ?_
          rotate_left
          · intro w hSw
            (try dsimp only at hSw)
            go_simp
            (try with_reducible rfl)
          (try simp only [List.getElem_toArray, List.getElem_cons_zero, List.getElem_cons_succ, Act.put, List.setIfInBounds_toArray, List.set_cons_zero, List.set_cons_succ])
          refine wpAnyH_take (i := 3) (v := ?_) rfl (by kernel_rfl) (by kernel_rfl) (by kernel_rfl) (fun _ _ _ h => h) (Or.inl ⟨by rfl, ?_⟩) (by assumption) ?_
          rotate_left
          · intro w hSw
            (try dsimp only at hSw)
            go_simp
            (try with_reducible rfl)
          (try simp only [List.getElem_toArray, List.getElem_cons_zero, List.getElem_cons_succ, Act.put, List.setIfInBounds_toArray, List.set_cons_zero, List.set_cons_succ])
          refine wpAnyH_take (i := 4) (v := ?_) rfl (by kernel_rfl) (by kernel_rfl) (by kernel_rfl) (fun _ _ _ h => h) (Or.inl ⟨by rfl, ?_⟩) (by assumption) ?_
          rotate_left
          · intro w hSw
            (try dsimp only at hSw)
            go_simp
            (try with_reducible rfl)
          (try simp only [List.getElem_toArray, List.getElem_cons_zero, List.getElem_cons_succ, Act.put, List.setIfInBounds_toArray, List.set_cons_zero, List.set_cons_succ])
          refine wpAnyH_take (i := 5) (v := ?_) rfl (by kernel_rfl) (by kernel_rfl) (by kernel_rfl) (fun _ _ _ h => h) (Or.inl ⟨by rfl, ?_⟩) (by assumption) ?_
          rotate_left
          · intro w hSw
            (try dsimp only at hSw)
            go_simp
            (try with_reducible rfl)
          (try simp only [List.getElem_toArray, List.getElem_cons_zero, List.getElem_cons_succ, Act.put, List.setIfInBounds_toArray, List.set_cons_zero, List.set_cons_succ])
          refine wpAnyH_ready (rs := [6]) (by kernel_rfl) (by simp) ?_
          refine AllReadyH.cons (o := _) rfl (fun Kc hKc => ?_) AllReadyH.nil
          go_simp
          go_at_call 8
          refine (t_of _ s.qty HQT.out.1 HQT.out.2).mono ?_
          rintro e w' ⟨v1, rfl, nv1, hb⟩
          have F2 := chain2 F1 hb
          replace nv1 := nv1.mono (show 3 ≤ 5100 by decide)
          dsimp only
          refine hKc.out _ _ (HC.out _ (chain2 HBZ.out F2)) (fun hHeld => ?_)
          clear hKc Kc
          (try simp only [List.getElem_toArray, List.getElem_cons_zero, List.getElem_cons_succ, Act.put, List.setIfInBounds_toArray, List.set_cons_zero, List.set_cons_succ])
          refine wpAnyH_ready (rs := [7]) (by kernel_rfl) (by simp) ?_
          refine AllReadyH.cons (o := _) rfl (fun Kc hKc => ?_) AllReadyH.nil
          go_simp
          go_at_call 45
          refine (t_cmp _ _ _ q (s.qty : Rat) 5100 (by decide) (HQI.out.below (chain2 HBY1.out F2)) nv1).mono ?_
          rintro e w' ⟨he, hb⟩
          rw [hcmr] at he
          subst he
          have F3 := chain2 F2 hb
          dsimp only
          refine hKc.out _ _ (HC.out _ (chain2 HBZ.out F3)) (fun hHeld => ?_)
          clear hKc Kc
          (try simp only [List.getElem_toArray, List.getElem_cons_zero, List.getElem_cons_succ, Act.put, List.setIfInBounds_toArray, List.set_cons_zero, List.set_cons_succ])
          refine wpAnyH_take (i := 8) (v := ?_) rfl (by kernel_rfl) (by kernel_rfl) (by kernel_rfl) (fun _ _ _ h => h) (Or.inl ⟨by rfl, ?_⟩) (by assumption) ?_
          rotate_left
          · intro w hSw
            (try dsimp only at hSw)
            go_simp
            (try with_reducible rfl)
          (try simp only [List.getElem_toArray, List.getElem_cons_zero, List.getElem_cons_succ, Act.put, List.setIfInBounds_toArray, List.set_cons_zero, List.set_cons_succ])
          refine wpAnyH_take (i := 9) (v := ?_) rfl (by kernel_rfl) (by kernel_rfl) (by kernel_rfl) (fun _ _ _ h => h) (Or.inl ⟨by rfl, ?_⟩) (by assumption) ?_
          rotate_left
          · intro w hSw
            (try dsimp only at hSw)
            go_simp
            (try with_reducible rfl)
          (try simp only [List.getElem_toArray, List.getElem_cons_zero, List.getElem_cons_succ, Act.put, List.setIfInBounds_toArray, List.set_cons_zero, List.set_cons_succ])
          refine wpAnyH_done (by kernel_rfl) ?_ _
          refine NoPanic.normal ?_

          have HBY3 := hid (chain2 HBZ.out F3)
          have HBN := hid (HBW.out.trans ((chain2 HBY1.out F3).mono HBW.out.size))
          clear hHeld F1 F2 F3 nv1 hb hbs h1 h2 hsgr hcmr
          cases bu with
          | true =>
            have HN := hid (show bndN h z g.low g.high S Q (k + 1) = ((max b1 s.price), b2) by
              rw [HNX.out]
              unfold bstep
              rw [if_pos HSAME.out]
              simp only [HBU.out, HSM.out, HAL.out]
              simp)
            have u6' := ikc HBY3.out u6
            have u4' := ikc HBY3.out u4
            obtain ⟨lo', HLO⟩ : ∃ x, Hid ((max b1 s.price) = x) := ⟨_, hid rfl⟩
            obtain ⟨hi', HHI⟩ : ∃ x, Hid (b2 = x) := ⟨_, hid rfl⟩
            rw [HLO.out, HHI.out] at HN
            have hm1 : max b1 s.price = lo' := HLO.out
            have hm2 : (if b1 < s.price then s.price else b1) = lo' := by rw [← HLO.out]; split <;> omega
            have hm3 : b2 = hi' := HHI.out
            clear HHI
            subst hm3
            clear u4 u6
            go_wp2_with fail
            go_roundw
            case rel => exact ⟨k + 1, _, _, by omega, by go_num, rfl, rfl, HN, HBN⟩
            case measure => simp [intOf]; omega
          | false =>
            have HN := hid (show bndN h z g.low g.high S Q (k + 1) = (b1, (min b2 s.price)) by
              rw [HNX.out]
              unfold bstep
              rw [if_pos HSAME.out]
              simp only [HBU.out, HSM.out, HAL.out]
              simp)
            have u6' := ikc HBY3.out u6
            have u4' := ikc HBY3.out u4
            obtain ⟨lo', HLO⟩ : ∃ x, Hid (b1 = x) := ⟨_, hid rfl⟩
            obtain ⟨hi', HHI⟩ : ∃ x, Hid ((min b2 s.price) = x) := ⟨_, hid rfl⟩
            rw [HLO.out, HHI.out] at HN
            have hm1 : b1 = lo' := HLO.out
            clear HLO
            subst hm1
            have hm3 : min b2 s.price = hi' := HHI.out
            have hm4 : (if s.price < b2 then s.price else b2) = hi' := by rw [← HHI.out]; split <;> omega
            clear u4 u6
            go_wp2_with fail
            go_roundw
            case rel => exact ⟨k + 1, _, _, by omega, by go_num, rfl, rfl, HN, HBN⟩
            case measure => simp [intOf]; omega

    · obtain rfl : k = S.length := by omega
      have HFI := hid (show PBnd g S X h z (bndE (b1, b2)) from Or.inl ⟨Q, HAS.out, by rw [HBD.out]⟩)
      unfold bndE at HFI
      by_cases hb : b2 < b1
      · have hb' : decide (b2 < b1) = true := decide_eq_true hb
        rw [if_pos hb] at HFI
        clear hb
        go_wp2_with fail
        go_ret3
        exact ⟨⟨_, rfl, HFI.out⟩, HBR.out⟩
      · have hb' : decide (b2 < b1) = false := decide_eq_false hb
        rw [if_neg hb] at HFI
        clear hb
        go_wp2_with fail
        go_ret3
        first
          | exact ⟨⟨(b1, b2, true), rfl, HFI.out⟩, HBR.out⟩
          | exact ⟨⟨b1, b2, Or.inr ⟨rfl, HFI.out⟩⟩, HBR.out⟩
          | exact ⟨Or.inr ⟨b1, b2, rfl, HFI.out⟩, HBR.out⟩
          | exact ⟨⟨b1, b2, Or.inl ⟨rfl, HFI.out⟩⟩, HBR.out⟩
end Go.Proofs.YtcdkoadobdgbhaaGreatDoor
