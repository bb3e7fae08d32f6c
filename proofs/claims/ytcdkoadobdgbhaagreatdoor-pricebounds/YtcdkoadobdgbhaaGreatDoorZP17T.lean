/- price: the document's Taken, without blocks. -/
import Derived.Test.YtcdkoadobdgbhaaGreatDoorZP17S
import Derived.Test.YtcdkoadobdgbhaaGreatDoorZP17Q
namespace Go.Proofs.YtcdkoadobdgbhaaGreatDoor
open Go.RowKit
set_option linter.unusedVariables false
set_option maxRecDepth 100000
set_option linter.unusedSimpArgs false

set_option maxHeartbeats 12800000 in
theorem hTaken0_any (w : World) (g : Gr) (la : Option Addr) (lc : Nat) (sv xv : Value) (S : List Sp) (X : List ByteArray) (hl : Lns w (.slice la g.lines.length lc) g.lines) (hs : Sps w sv S) (hx : Strs w xv X) (hsz : ∀ s ∈ X, s.size ≤ 256) (hX : X.length ≤ 256) :
    Calls Tryz.prog 63 #[.agg #[.int .i64 g.zones, .int .i64 g.hours, .slice la g.lines.length lc, .int .i64 g.low, .int .i64 g.high], sv, .slice none 0 0, xv] w fun e w' => (∃ R : Bool, e = .returned (.bool R) ∧ (R = true ↔ (OkS g S ∧ ∃ Q, Nums X Q ∧ Takes S Q))) ∧ Below w.heap.size w w' := by
  obtain ⟨sa, sc, rfl, sl, sm⟩ := hs.slice
  unfold maxLen at sm
  have b0 := ibel w (Obj.cells #[.int .i64 g.zones, .int .i64 g.hours, .slice la g.lines.length lc, .int .i64 g.low, .int .i64 g.high] 25)
  have x0 := inew w (Obj.cells #[.int .i64 g.zones, .int .i64 g.hours, .slice la g.lines.length lc, .int .i64 g.low, .int .i64 g.high] 25)
  have z0 := ibx x0 0 _ rfl
  have z1 := ibx x0 1 _ rfl
  have z2 := ibx x0 2 _ rfl
  have z3 := ibx x0 3 _ rfl
  have z4 := ibx x0 4 _ rfl
  have HB0 := hid b0
  have HL := hid hl
  have HS := hid hs
  have HNB := hid (hNumbers_any (w.alloc (Obj.cells #[.int .i64 g.zones, .int .i64 g.hours, .slice la g.lines.length lc, .int .i64 g.low, .int .i64 g.high] 25)) xv X (hx.below b0) (fun s hs => Nat.le_trans (hsz s hs) (by decide)) (by omega))
  clear hl hs hx hsz hX b0 x0
  go_enter Tryz.func63, Tryz.ntmps63
  go_wp2_with fail
  refine HNB.out.mono ?_
  rintro e X1 ⟨hr, hb1⟩
  replace z0 := ikc hb1 z0
  replace z1 := ikc hb1 z1
  replace z2 := ikc hb1 z2
  replace z3 := ikc hb1 z3
  replace z4 := ikc hb1 z4
  have HB1 := hid (chain2 HB0.out hb1)
  have HORD := hid (hOrders0_any X1 g la lc _ S (HL.out.below HB1.out) (HS.out.below HB1.out))
  clear hb1 HNB HB0
  rcases hr with ⟨Q, tv, C, hnu, rfl, htl⟩ | ⟨hno, rfl⟩
  case inr =>
    have HNO := hid (show ¬ (OkS g S ∧ ∃ Q, Nums X Q ∧ Takes S Q) from fun ⟨_, Q, h1, _⟩ => hno ⟨Q, h1⟩)
    clear hno
    go_wp2_with fail
    refine HORD.out.mono ?_
    rintro e X2 ⟨⟨R, rfl, hR⟩, hb2⟩
    have HBF := hid (HB1.out.trans (hb2.mono HB1.out.size))
    clear hR hb2
    cases R with
    | false =>
      go_wp2_with fail
      go_ret
      exact ⟨⟨false, rfl, by simp [HNO.out]⟩, HBF.out⟩

    | true =>
      go_wp2_with fail
      go_ret
      exact ⟨⟨false, rfl, by simp [HNO.out]⟩, HBF.out⟩

  case inl =>
    obtain ⟨ta, tc, rfl, tl, tm⟩ := htl.slice
    have HNU := hid hnu
    have HTL := hid htl
    clear hnu htl
    go_wp2_with fail
    refine HORD.out.mono ?_
    rintro e X2 ⟨⟨R, rfl, hR⟩, hb2⟩
    have HB2 := hid (HB1.out.trans (hb2.mono HB1.out.size))
    have HTL2 := hid (Ls.below (fun h b => h.below b) HTL.out hb2)
    have HR := hid hR
    have HS2 := hid (HS.out.below HB2.out)
    clear hR hb2 HORD HTL z0 z1 z2 z3 z4
    cases R with
    | false =>
      have HBF := HB2
      have HNO := hid (show ¬ (OkS g S ∧ ∃ Q, Nums X Q ∧ Takes S Q) from fun h => by have := HR.out.2 h.1; cases this)
      go_wp2_with fail
      go_ret
      exact ⟨⟨false, rfl, by simp [HNO.out]⟩, HBF.out⟩

    | true =>
    have HOS := hid (HR.out.1 rfl)
    by_cases hlen : Q.length = S.length
    case neg =>
      have hne : ((Q.length : Int) != (S.length : Int)) = true := by simp; omega
      have hne2 : (Q.length != S.length) = true := by simp; omega
      have hne3 : ((Q.length : Int) == (S.length : Int)) = false := by simp; omega
      have hne4 : (Q.length == S.length) = false := by simp; omega
      have HBF := HB2
      have HNO := hid (show ¬ (OkS g S ∧ ∃ Q, Nums X Q ∧ Takes S Q) from fun ⟨_, P, h1, h2⟩ => hlen (by rw [HNU.out.uniq h1]; exact h2.len))
      go_wp2_with fail
      go_ret
      exact ⟨⟨false, rfl, by simp [HNO.out]⟩, HBF.out⟩

    have hne : ((Q.length : Int) != (S.length : Int)) = false := by simp [hlen]
    have hne2 : (Q.length != S.length) = false := by simp [hlen]
    have hne3 : ((Q.length : Int) == (S.length : Int)) = true := by simp [hlen]
    have hne4 : (Q.length == S.length) = true := by simp [hlen]
    have HLEN := hid hlen
    have hq64 : Q.length ≤ 32 := by rw [hlen]; exact HOS.out.len
    clear hlen
    go_wp2_with fail
    clear hne hne2 hne3 hne4
    go_loopw [11] (fun i wr => ∃ k : Nat, k ≤ Q.length ∧ i = .int .i64 (k : Int) ∧ Hid (∀ i, i < k → ∀ (h : i < S.length) (hx : i < Q.length), 0 ≤ Q[i] ∧ Q[i] ≤ (S[i].qty : Rat)) ∧ Hid (Below X2.heap.size X2 wr)) (fun i _ => Q.length - (intOf i).toNat)
    case atStart => exact ⟨0, Nat.zero_le _, rfl, hid (fun i hi => by omega), hid (Below.refl _ _)⟩
    case round =>
      obtain ⟨k, hk, rfl, HPA, HBW⟩ := hrel
      have HBR := hid (HB2.out.trans (HBW.out.mono HB2.out.size))
      by_cases hlt : k < Q.length
      · have HKS := hid (show k < S.length by rw [← HLEN.out]; exact hlt)
        obtain ⟨sb, so, sc', e, -, -, -, -, -, g5, -⟩ := (HS2.out.below HBW.out).at k HKS.out
        simp only [Value.slice.injEq] at e
        obtain ⟨rfl, -, rfl⟩ := e
        obtain ⟨gq, cq, y0, y1, y2, y3, e, -, c0, c1, c2, c3, hqi⟩ := (Ls.below (fun h b => h.below b) HTL2.out HBW.out).at k hlt
        simp only [Value.slice.injEq] at e
        obtain ⟨rfl, -, rfl⟩ := e
        obtain ⟨q1, q2, q3, q4, q5, q6, q7, q8, ef⟩ := hqi.form
        simp only [Value.agg.injEq, Array.mk.injEq, List.cons.injEq, and_true] at ef
        obtain ⟨rfl, rfl, rfl, rfl⟩ := ef
        have HQT := hid (show In64 S[k].qty from by
          have := stAll_at HOS.out.all HKS.out
          simp only [stOk, btw, Bool.and_eq_true, decide_eq_true_eq] at this
          exact ⟨by omega, by omega⟩)
        have HNX := hid (show (0 ≤ Q[k] ∧ Q[k] ≤ (S[k].qty : Rat)) → ∀ i, i < k + 1 → ∀ (h : i < S.length) (hx : i < Q.length), 0 ≤ Q[i] ∧ Q[i] ≤ (S[i].qty : Rat) from fun hh i hi h hx => by
          by_cases e : i < k
          · exact HPA.out i e h hx
          · obtain rfl : i = k := by omega
            exact hh)
        have HNN := hid (show ¬ (0 ≤ Q[k] ∧ Q[k] ≤ (S[k].qty : Rat)) → ¬ (OkS g S ∧ ∃ Q, Nums X Q ∧ Takes S Q) from fun hh ⟨_, P, h1, h2⟩ => hh (by
          obtain rfl := HNU.out.uniq h1
          exact h2.is_ k HKS.out hlt))
        have hli : (0 : Int) ≤ (k : Int) ∧ (k : Int) < (Q.length : Int) := by omega
        have hls : (k : Int) < (S.length : Int) := by have := HKS.out; omega
        have HQI := hid hqi
        have HC := hid (fun (Y : World) (b : Below wr.heap.size wr Y) => (⟨ikc b c0, ikc b c1, ikc b c2, ikc b c3, ikc b g5⟩ : Y.cell? ⟨gq, k * 4, none⟩ = some (.bool q1) ∧ Y.cell? ⟨gq, k * 4 + 1, none⟩ = some (.slice q2 q3 q4) ∧ Y.cell? ⟨gq, k * 4 + 2, none⟩ = some (.bool q5) ∧ Y.cell? ⟨gq, k * 4 + 3, none⟩ = some (.slice q6 q7 q8) ∧ Y.cell? ⟨sb, so + k * 7 + 5, none⟩ = some (.int .i64 S[k].qty)))
        obtain ⟨qty, HQY⟩ : ∃ z, Hid (S[k].qty = z) := ⟨_, hid rfl⟩
        obtain ⟨q, HQQ⟩ : ∃ z, Hid (Q[k] = z) := ⟨_, hid rfl⟩
        rw [HQY.out] at HQT HNX HNN HC
        rw [HQQ.out] at HNX HNN HQI
        clear c0 c1 c2 c3 g5 hqi HQY HQQ
        have F0 : Below wr.heap.size wr wr.drew := (Below.refl _ _).drew
        have hsg := sgnR_neg (q := q)
        have hcm := cmpR_pos (p := q) (q := (qty : Rat))
        have HSG := hid hsg
        have HCM := hid hcm
        clear hsg hcm
        obtain ⟨sg, HSGE⟩ : ∃ z, Hid (sgnR q = z) := ⟨_, hid rfl⟩
        obtain ⟨cm, HCME⟩ : ∃ z, Hid (cmpR q (qty : Rat) = z) := ⟨_, hid rfl⟩
        have hsgr := HSGE.out
        have hcmr := HCME.out
        by_cases h1 : sg < 0
        · have h1' : decide (sg < 0) = true := decide_eq_true h1
          have HNO := hid (HNN.out (fun hh => HSG.out.1 (by rw [hsgr]; exact h1) hh.1))
          go_wp2_with fail
          refine wp_region_noPanic ?_
          refine wp_region_held_drew (S := fun Y => Y.cell? ⟨gq, k * 4, none⟩ = some (.bool q1) ∧ Y.cell? ⟨gq, k * 4 + 1, none⟩ = some (.slice q2 q3 q4) ∧ Y.cell? ⟨gq, k * 4 + 2, none⟩ = some (.bool q5) ∧ Y.cell? ⟨gq, k * 4 + 3, none⟩ = some (.slice q6 q7 q8) ∧ Y.cell? ⟨sb, so + k * 7 + 5, none⟩ = some (.int .i64 qty)) (by kernel_rfl) (HC.out _ F0) (fun hHeld => ?_)
          refine wpAnyH_take (i := 0) (v := ?_) rfl (by kernel_rfl) (by kernel_rfl) (by kernel_rfl) (fun _ _ _ h => h) (Or.inl ⟨by rfl, ?_⟩) (by assumption) ?_
          rotate_left
          · intro w hSw
            (try dsimp only at hSw)
            go_simp
            (try with_reducible rfl)
          (try simp only [List.getElem_toArray, List.getElem_cons_zero, List.getElem_cons_succ, Act.put, List.setIfInBounds_toArray, List.set_cons_zero, List.set_cons_succ])
          refine wpAnyH_take (i := 1) (v := ?_) rfl (by kernel_rfl) (by kernel_rfl) (by kernel_rfl) (fun _ _ _ h => h) (Or.inl ⟨by rfl, ?_⟩) (by assumption) ?_
          rotate_left
          · intro w hSw
            (try dsimp only at hSw)
            go_simp
            (try with_reducible rfl)
          (try simp only [List.getElem_toArray, List.getElem_cons_zero, List.getElem_cons_succ, Act.put, List.setIfInBounds_toArray, List.set_cons_zero, List.set_cons_succ])
          refine wpAnyH_take (i := 2) (v := ?_) rfl (by kernel_rfl) (by kernel_rfl) (by kernel_rfl) (fun _ _ _ h => h) (Or.inl ⟨by rfl, ?_⟩) (by assumption) ?_
          rotate_left
          · intro w hSw
            (try dsimp only at hSw)
            go_simp
            (try with_reducible rfl)
          (try simp only [List.getElem_toArray, List.getElem_cons_zero, List.getElem_cons_succ, Act.put, List.setIfInBounds_toArray, List.set_cons_zero, List.set_cons_succ])
          refine wpAnyH_take (i := 3) (v := ?_) rfl (by kernel_rfl) (by kernel_rfl) (by kernel_rfl) (fun _ _ _ h => h) (Or.inl ⟨by rfl, ?_⟩) (by assumption) ?_
          rotate_left
          · intro w hSw
            (try dsimp only at hSw)
            go_simp
            (try with_reducible rfl)
          (try simp only [List.getElem_toArray, List.getElem_cons_zero, List.getElem_cons_succ, Act.put, List.setIfInBounds_toArray, List.set_cons_zero, List.set_cons_succ])
          refine wpAnyH_ready (rs := [4]) (by kernel_rfl) (by simp) ?_
          refine AllReadyH.cons (o := _) rfl (fun Kc hKc => ?_) AllReadyH.nil
          go_simp
          go_at_call 65
          refine (t_sign _ _ q 5100 (by decide) (HQI.out.below F0)).mono ?_
          rintro e w' ⟨he, hb⟩
          rw [hsgr] at he
          subst he
          have F1 := chain2 F0 hb
          dsimp only
          refine hKc.out _ _ (HC.out _ F1) (fun hHeld => ?_)
          clear hKc Kc
          (try simp only [List.getElem_toArray, List.getElem_cons_zero, List.getElem_cons_succ, Act.put, List.setIfInBounds_toArray, List.set_cons_zero, List.set_cons_succ])
          refine wpAnyH_take (i := 5) (v := ?_) rfl (by kernel_rfl) (by kernel_rfl) (by kernel_rfl) (fun _ _ _ h => h) (Or.inl ⟨by rfl, ?_⟩) (by assumption) ?_
          rotate_left
          · intro w hSw
            (try dsimp only at hSw)
            go_simp
            (try with_reducible rfl)
          (try simp only [List.getElem_toArray, List.getElem_cons_zero, List.getElem_cons_succ, Act.put, List.setIfInBounds_toArray, List.set_cons_zero, List.set_cons_succ])
          refine wpAnyH_take (i := 6) (v := ?_) rfl (by kernel_rfl) (by kernel_rfl) (by kernel_rfl) (fun _ _ _ h => h) (Or.inl ⟨by rfl, ?_⟩) (by assumption) ?_
          rotate_left
          · intro w hSw
            (try dsimp only at hSw)
            go_simp
            (try with_reducible rfl)
          (try simp only [List.getElem_toArray, List.getElem_cons_zero, List.getElem_cons_succ, Act.put, List.setIfInBounds_toArray, List.set_cons_zero, List.set_cons_succ])
          refine wpAnyH_take (i := 7) (v := undef) rfl (by kernel_rfl) (by kernel_rfl) (by kernel_rfl) (fun _ _ _ h => h) (Or.inr ⟨by rfl, rfl⟩) (by assumption) ?_
          (try simp only [List.getElem_toArray, List.getElem_cons_zero, List.getElem_cons_succ, Act.put, List.setIfInBounds_toArray, List.set_cons_zero, List.set_cons_succ])
          refine wpAnyH_take (i := 8) (v := undef) rfl (by kernel_rfl) (by kernel_rfl) (by kernel_rfl) (fun _ _ _ h => h) (Or.inr ⟨by rfl, rfl⟩) (by assumption) ?_
          (try simp only [List.getElem_toArray, List.getElem_cons_zero, List.getElem_cons_succ, Act.put, List.setIfInBounds_toArray, List.set_cons_zero, List.set_cons_succ])
          refine wpAnyH_take (i := 9) (v := undef) rfl (by kernel_rfl) (by kernel_rfl) (by kernel_rfl) (fun _ _ _ h => h) (Or.inr ⟨by rfl, rfl⟩) (by assumption) ?_
          (try simp only [List.getElem_toArray, List.getElem_cons_zero, List.getElem_cons_succ, Act.put, List.setIfInBounds_toArray, List.set_cons_zero, List.set_cons_succ])
          refine wpAnyH_take (i := 10) (v := undef) rfl (by kernel_rfl) (by kernel_rfl) (by kernel_rfl) (fun _ _ _ h => h) (Or.inr ⟨by rfl, rfl⟩) (by assumption) ?_
          (try simp only [List.getElem_toArray, List.getElem_cons_zero, List.getElem_cons_succ, Act.put, List.setIfInBounds_toArray, List.set_cons_zero, List.set_cons_succ])
          refine wpAnyH_take (i := 11) (v := undef) rfl (by kernel_rfl) (by kernel_rfl) (by kernel_rfl) (fun _ _ _ h => h) (Or.inr ⟨by rfl, rfl⟩) (by assumption) ?_
          (try simp only [List.getElem_toArray, List.getElem_cons_zero, List.getElem_cons_succ, Act.put, List.setIfInBounds_toArray, List.set_cons_zero, List.set_cons_succ])
          refine wpAnyH_take (i := 12) (v := undef) rfl (by kernel_rfl) (by kernel_rfl) (by kernel_rfl) (fun _ _ _ h => h) (Or.inr ⟨by rfl, rfl⟩) (by assumption) ?_
          (try simp only [List.getElem_toArray, List.getElem_cons_zero, List.getElem_cons_succ, Act.put, List.setIfInBounds_toArray, List.set_cons_zero, List.set_cons_succ])
          refine wpAnyH_take (i := 13) (v := undef) rfl (by kernel_rfl) (by kernel_rfl) (by kernel_rfl) (fun _ _ _ h => h) (Or.inr ⟨by rfl, rfl⟩) (by assumption) ?_
          (try simp only [List.getElem_toArray, List.getElem_cons_zero, List.getElem_cons_succ, Act.put, List.setIfInBounds_toArray, List.set_cons_zero, List.set_cons_succ])
          refine wpAnyH_take (i := 14) (v := undef) rfl (by kernel_rfl) (by kernel_rfl) (by kernel_rfl) (fun _ _ _ h => h) (Or.inr ⟨by rfl, rfl⟩) (by assumption) ?_
          (try simp only [List.getElem_toArray, List.getElem_cons_zero, List.getElem_cons_succ, Act.put, List.setIfInBounds_toArray, List.set_cons_zero, List.set_cons_succ])
          refine wpAnyH_take (i := 15) (v := undef) rfl (by kernel_rfl) (by kernel_rfl) (by kernel_rfl) (fun _ _ _ h => h) (Or.inr ⟨by rfl, rfl⟩) (by assumption) ?_
          (try simp only [List.getElem_toArray, List.getElem_cons_zero, List.getElem_cons_succ, Act.put, List.setIfInBounds_toArray, List.set_cons_zero, List.set_cons_succ])
          refine wpAnyH_take (i := 16) (v := undef) rfl (by kernel_rfl) (by kernel_rfl) (by kernel_rfl) (fun _ _ _ h => h) (Or.inr ⟨by rfl, rfl⟩) (by assumption) ?_
          (try simp only [List.getElem_toArray, List.getElem_cons_zero, List.getElem_cons_succ, Act.put, List.setIfInBounds_toArray, List.set_cons_zero, List.set_cons_succ])
          refine wpAnyH_take (i := 17) (v := undef) rfl (by kernel_rfl) (by kernel_rfl) (by kernel_rfl) (fun _ _ _ h => h) (Or.inr ⟨by rfl, rfl⟩) (by assumption) ?_
          (try simp only [List.getElem_toArray, List.getElem_cons_zero, List.getElem_cons_succ, Act.put, List.setIfInBounds_toArray, List.set_cons_zero, List.set_cons_succ])
          refine wpAnyH_take (i := 18) (v := undef) rfl (by kernel_rfl) (by kernel_rfl) (by kernel_rfl) (fun _ _ _ h => h) (Or.inr ⟨by rfl, rfl⟩) (by assumption) ?_
          (try simp only [List.getElem_toArray, List.getElem_cons_zero, List.getElem_cons_succ, Act.put, List.setIfInBounds_toArray, List.set_cons_zero, List.set_cons_succ])
          refine wpAnyH_take (i := 19) (v := ?_) rfl (by kernel_rfl) (by kernel_rfl) (by kernel_rfl) (fun _ _ _ h => h) (Or.inl ⟨by rfl, ?_⟩) (by assumption) ?_
          rotate_left
          · intro w hSw
            (try dsimp only at hSw)
            go_simp
            (try with_reducible rfl)
          (try simp only [List.getElem_toArray, List.getElem_cons_zero, List.getElem_cons_succ, Act.put, List.setIfInBounds_toArray, List.set_cons_zero, List.set_cons_succ])
          refine wpAnyH_done (by kernel_rfl) ?_ _
          refine NoPanic.normal ?_

          have HBF := hid (HBR.out.trans (F1.mono HBR.out.size))
          go_wp2_with fail
          go_ret
          exact ⟨⟨false, rfl, by simp [HNO.out]⟩, HBF.out⟩

        · have h1' : decide (sg < 0) = false := decide_eq_false h1
          have H0 := hid (show 0 ≤ q from Decidable.byContradiction (fun hh => h1 (by rw [← hsgr]; exact HSG.out.2 hh)))
          by_cases h2 : 0 < cm
          · have h2' : decide (0 < cm) = true := decide_eq_true h2
            have HNO := hid (HNN.out (fun hh => HCM.out.1 (by rw [hcmr]; exact h2) hh.2))
            go_wp2_with fail
            refine wp_region_noPanic ?_
            refine wp_region_held_drew (S := fun Y => Y.cell? ⟨gq, k * 4, none⟩ = some (.bool q1) ∧ Y.cell? ⟨gq, k * 4 + 1, none⟩ = some (.slice q2 q3 q4) ∧ Y.cell? ⟨gq, k * 4 + 2, none⟩ = some (.bool q5) ∧ Y.cell? ⟨gq, k * 4 + 3, none⟩ = some (.slice q6 q7 q8) ∧ Y.cell? ⟨sb, so + k * 7 + 5, none⟩ = some (.int .i64 qty)) (by kernel_rfl) (HC.out _ F0) (fun hHeld => ?_)
            refine wpAnyH_take (i := 0) (v := ?_) rfl (by kernel_rfl) (by kernel_rfl) (by kernel_rfl) (fun _ _ _ h => h) (Or.inl ⟨by rfl, ?_⟩) (by assumption) ?_
            rotate_left
            · intro w hSw
              (try dsimp only at hSw)
              go_simp
              (try with_reducible rfl)
            (try simp only [List.getElem_toArray, List.getElem_cons_zero, List.getElem_cons_succ, Act.put, List.setIfInBounds_toArray, List.set_cons_zero, List.set_cons_succ])
            refine wpAnyH_take (i := 1) (v := ?_) rfl (by kernel_rfl) (by kernel_rfl) (by kernel_rfl) (fun _ _ _ h => h) (Or.inl ⟨by rfl, ?_⟩) (by assumption) ?_
            rotate_left
            · intro w hSw
              (try dsimp only at hSw)
              go_simp
              (try with_reducible rfl)
            (try simp only [List.getElem_toArray, List.getElem_cons_zero, List.getElem_cons_succ, Act.put, List.setIfInBounds_toArray, List.set_cons_zero, List.set_cons_succ])
            refine wpAnyH_take (i := 2) (v := ?_) rfl (by kernel_rfl) (by kernel_rfl) (by kernel_rfl) (fun _ _ _ h => h) (Or.inl ⟨by rfl, ?_⟩) (by assumption) ?_
            rotate_left
            · intro w hSw
              (try dsimp only at hSw)
              go_simp
              (try with_reducible rfl)
            (try simp only [List.getElem_toArray, List.getElem_cons_zero, List.getElem_cons_succ, Act.put, List.setIfInBounds_toArray, List.set_cons_zero, List.set_cons_succ])
            refine wpAnyH_take (i := 3) (v := ?_) rfl (by kernel_rfl) (by kernel_rfl) (by kernel_rfl) (fun _ _ _ h => h) (Or.inl ⟨by rfl, ?_⟩) (by assumption) ?_
            rotate_left
            · intro w hSw
              (try dsimp only at hSw)
              go_simp
              (try with_reducible rfl)
            (try simp only [List.getElem_toArray, List.getElem_cons_zero, List.getElem_cons_succ, Act.put, List.setIfInBounds_toArray, List.set_cons_zero, List.set_cons_succ])
            refine wpAnyH_ready (rs := [4]) (by kernel_rfl) (by simp) ?_
            refine AllReadyH.cons (o := _) rfl (fun Kc hKc => ?_) AllReadyH.nil
            go_simp
            go_at_call 65
            refine (t_sign _ _ q 5100 (by decide) (HQI.out.below F0)).mono ?_
            rintro e w' ⟨he, hb⟩
            rw [hsgr] at he
            subst he
            have F1 := chain2 F0 hb
            dsimp only
            refine hKc.out _ _ (HC.out _ F1) (fun hHeld => ?_)
            clear hKc Kc
            (try simp only [List.getElem_toArray, List.getElem_cons_zero, List.getElem_cons_succ, Act.put, List.setIfInBounds_toArray, List.set_cons_zero, List.set_cons_succ])
            refine wpAnyH_take (i := 5) (v := ?_) rfl (by kernel_rfl) (by kernel_rfl) (by kernel_rfl) (fun _ _ _ h => h) (Or.inl ⟨by rfl, ?_⟩) (by assumption) ?_
            rotate_left
            · intro w hSw
              (try dsimp only at hSw)
              go_simp
              (try with_reducible rfl)
            (try simp only [List.getElem_toArray, List.getElem_cons_zero, List.getElem_cons_succ, Act.put, List.setIfInBounds_toArray, List.set_cons_zero, List.set_cons_succ])
            refine wpAnyH_take (i := 6) (v := ?_) rfl (by kernel_rfl) (by kernel_rfl) (by kernel_rfl) (fun _ _ _ h => h) (Or.inl ⟨by rfl, ?_⟩) (by assumption) ?_
            rotate_left
            · intro w hSw
              (try dsimp only at hSw)
              go_simp
              (try with_reducible rfl)
            (try simp only [List.getElem_toArray, List.getElem_cons_zero, List.getElem_cons_succ, Act.put, List.setIfInBounds_toArray, List.set_cons_zero, List.set_cons_succ])
            refine wpAnyH_take (i := 7) (v := ?_) rfl (by kernel_rfl) (by kernel_rfl) (by kernel_rfl) (fun _ _ _ h => h) (Or.inl ⟨by rfl, ?_⟩) (by assumption) ?_
            rotate_left
            · intro w hSw
              (try dsimp only at hSw)
              go_simp
              (try with_reducible rfl)
            (try simp only [List.getElem_toArray, List.getElem_cons_zero, List.getElem_cons_succ, Act.put, List.setIfInBounds_toArray, List.set_cons_zero, List.set_cons_succ])
            refine wpAnyH_take (i := 8) (v := ?_) rfl (by kernel_rfl) (by kernel_rfl) (by kernel_rfl) (fun _ _ _ h => h) (Or.inl ⟨by rfl, ?_⟩) (by assumption) ?_
            rotate_left
            · intro w hSw
              (try dsimp only at hSw)
              go_simp
              (try with_reducible rfl)
            (try simp only [List.getElem_toArray, List.getElem_cons_zero, List.getElem_cons_succ, Act.put, List.setIfInBounds_toArray, List.set_cons_zero, List.set_cons_succ])
            refine wpAnyH_take (i := 9) (v := ?_) rfl (by kernel_rfl) (by kernel_rfl) (by kernel_rfl) (fun _ _ _ h => h) (Or.inl ⟨by rfl, ?_⟩) (by assumption) ?_
            rotate_left
            · intro w hSw
              (try dsimp only at hSw)
              go_simp
              (try with_reducible rfl)
            (try simp only [List.getElem_toArray, List.getElem_cons_zero, List.getElem_cons_succ, Act.put, List.setIfInBounds_toArray, List.set_cons_zero, List.set_cons_succ])
            refine wpAnyH_take (i := 10) (v := ?_) rfl (by kernel_rfl) (by kernel_rfl) (by kernel_rfl) (fun _ _ _ h => h) (Or.inl ⟨by rfl, ?_⟩) (by assumption) ?_
            rotate_left
            · intro w hSw
              (try dsimp only at hSw)
              go_simp
              (try with_reducible rfl)
            (try simp only [List.getElem_toArray, List.getElem_cons_zero, List.getElem_cons_succ, Act.put, List.setIfInBounds_toArray, List.set_cons_zero, List.set_cons_succ])
            refine wpAnyH_take (i := 11) (v := ?_) rfl (by kernel_rfl) (by kernel_rfl) (by kernel_rfl) (fun _ _ _ h => h) (Or.inl ⟨by rfl, ?_⟩) (by assumption) ?_
            rotate_left
            · intro w hSw
              (try dsimp only at hSw)
              go_simp
              (try with_reducible rfl)
            (try simp only [List.getElem_toArray, List.getElem_cons_zero, List.getElem_cons_succ, Act.put, List.setIfInBounds_toArray, List.set_cons_zero, List.set_cons_succ])
            refine wpAnyH_take (i := 12) (v := ?_) rfl (by kernel_rfl) (by kernel_rfl) (by kernel_rfl) (fun _ _ _ h => h) (Or.inl ⟨by rfl, ?_⟩) (by assumption) ?_
            rotate_left
            · intro w hSw
              (try dsimp only at hSw)
              go_simp
              (try with_reducible rfl)
            (try simp only [List.getElem_toArray, List.getElem_cons_zero, List.getElem_cons_succ, Act.put, List.setIfInBounds_toArray, List.set_cons_zero, List.set_cons_succ])
            refine wpAnyH_take (i := 13) (v := ?_) rfl (by kernel_rfl) (by kernel_rfl) (by kernel_rfl) (fun _ _ _ h => h) (Or.inl ⟨by rfl, ?_⟩) (by assumption) ?_
            rotate_left
            · intro w hSw
              (try dsimp only at hSw)
              go_simp
              (try with_reducible rfl)
            (try simp only [List.getElem_toArray, List.getElem_cons_zero, List.getElem_cons_succ, Act.put, List.setIfInBounds_toArray, List.set_cons_zero, List.set_cons_succ])
            refine wpAnyH_take (i := 14) (v := ?_) rfl (by kernel_rfl) (by kernel_rfl) (by kernel_rfl) (fun _ _ _ h => h) (Or.inl ⟨by rfl, ?_⟩) (by assumption) ?_
            rotate_left
            · intro w hSw
              (try dsimp only at hSw)
              go_simp
              (try with_reducible rfl)
            (try simp only [List.getElem_toArray, List.getElem_cons_zero, List.getElem_cons_succ, Act.put, List.setIfInBounds_toArray, List.set_cons_zero, List.set_cons_succ])
            refine wpAnyH_take (i := 15) (v := ?_) rfl (by kernel_rfl) (by kernel_rfl) (by kernel_rfl) (fun _ _ _ h => h) (Or.inl ⟨by rfl, ?_⟩) (by assumption) ?_
            rotate_left
            · intro w hSw
              (try dsimp only at hSw)
              go_simp
              (try with_reducible rfl)
            (try simp only [List.getElem_toArray, List.getElem_cons_zero, List.getElem_cons_succ, Act.put, List.setIfInBounds_toArray, List.set_cons_zero, List.set_cons_succ])
            refine wpAnyH_ready (rs := [16]) (by kernel_rfl) (by simp) ?_
            refine AllReadyH.cons (o := _) rfl (fun Kc hKc => ?_) AllReadyH.nil
            go_simp
            go_at_call 8
            refine (t_of _ qty HQT.out.1 HQT.out.2).mono ?_
            rintro e w' ⟨v1, rfl, nv1, hb⟩
            have F2 := chain2 F1 hb
            replace nv1 := nv1.mono (show 3 ≤ 5100 by decide)
            dsimp only
            refine hKc.out _ _ (HC.out _ F2) (fun hHeld => ?_)
            clear hKc Kc
            (try simp only [List.getElem_toArray, List.getElem_cons_zero, List.getElem_cons_succ, Act.put, List.setIfInBounds_toArray, List.set_cons_zero, List.set_cons_succ])
            refine wpAnyH_ready (rs := [17]) (by kernel_rfl) (by simp) ?_
            refine AllReadyH.cons (o := _) rfl (fun Kc hKc => ?_) AllReadyH.nil
            go_simp
            go_at_call 45
            refine (t_cmp _ _ _ q (qty : Rat) 5100 (by decide) (HQI.out.below F2) nv1).mono ?_
            rintro e w' ⟨he, hb⟩
            rw [hcmr] at he
            subst he
            have F3 := chain2 F2 hb
            dsimp only
            refine hKc.out _ _ (HC.out _ F3) (fun hHeld => ?_)
            clear hKc Kc
            (try simp only [List.getElem_toArray, List.getElem_cons_zero, List.getElem_cons_succ, Act.put, List.setIfInBounds_toArray, List.set_cons_zero, List.set_cons_succ])
            refine wpAnyH_take (i := 18) (v := ?_) rfl (by kernel_rfl) (by kernel_rfl) (by kernel_rfl) (fun _ _ _ h => h) (Or.inl ⟨by rfl, ?_⟩) (by assumption) ?_
            rotate_left
            · intro w hSw
              (try dsimp only at hSw)
              go_simp
              (try with_reducible rfl)
            (try simp only [List.getElem_toArray, List.getElem_cons_zero, List.getElem_cons_succ, Act.put, List.setIfInBounds_toArray, List.set_cons_zero, List.set_cons_succ])
            refine wpAnyH_take (i := 19) (v := ?_) rfl (by kernel_rfl) (by kernel_rfl) (by kernel_rfl) (fun _ _ _ h => h) (Or.inl ⟨by rfl, ?_⟩) (by assumption) ?_
            rotate_left
            · intro w hSw
              (try dsimp only at hSw)
              go_simp
              (try with_reducible rfl)
            (try simp only [List.getElem_toArray, List.getElem_cons_zero, List.getElem_cons_succ, Act.put, List.setIfInBounds_toArray, List.set_cons_zero, List.set_cons_succ])
            refine wpAnyH_done (by kernel_rfl) ?_ _
            refine NoPanic.normal ?_

            have HBF := hid (HBR.out.trans (F3.mono HBR.out.size))
            go_wp2_with fail
            go_ret
            exact ⟨⟨false, rfl, by simp [HNO.out]⟩, HBF.out⟩

          · have h2' : decide (0 < cm) = false := decide_eq_false h2
            have HNY := hid (HNX.out ⟨H0.out, Decidable.byContradiction (fun hh => h2 (by rw [← hcmr]; exact HCM.out.2 hh))⟩)
            go_wp2_with fail
            refine wp_region_noPanic ?_
            refine wp_region_held_drew (S := fun Y => Y.cell? ⟨gq, k * 4, none⟩ = some (.bool q1) ∧ Y.cell? ⟨gq, k * 4 + 1, none⟩ = some (.slice q2 q3 q4) ∧ Y.cell? ⟨gq, k * 4 + 2, none⟩ = some (.bool q5) ∧ Y.cell? ⟨gq, k * 4 + 3, none⟩ = some (.slice q6 q7 q8) ∧ Y.cell? ⟨sb, so + k * 7 + 5, none⟩ = some (.int .i64 qty)) (by kernel_rfl) (HC.out _ F0) (fun hHeld => ?_)
            refine wpAnyH_take (i := 0) (v := ?_) rfl (by kernel_rfl) (by kernel_rfl) (by kernel_rfl) (fun _ _ _ h => h) (Or.inl ⟨by rfl, ?_⟩) (by assumption) ?_
            rotate_left
            · intro w hSw
              (try dsimp only at hSw)
              go_simp
              (try with_reducible rfl)
            (try simp only [List.getElem_toArray, List.getElem_cons_zero, List.getElem_cons_succ, Act.put, List.setIfInBounds_toArray, List.set_cons_zero, List.set_cons_succ])
            refine wpAnyH_take (i := 1) (v := ?_) rfl (by kernel_rfl) (by kernel_rfl) (by kernel_rfl) (fun _ _ _ h => h) (Or.inl ⟨by rfl, ?_⟩) (by assumption) ?_
            rotate_left
            · intro w hSw
              (try dsimp only at hSw)
              go_simp
              (try with_reducible rfl)
            (try simp only [List.getElem_toArray, List.getElem_cons_zero, List.getElem_cons_succ, Act.put, List.setIfInBounds_toArray, List.set_cons_zero, List.set_cons_succ])
            refine wpAnyH_take (i := 2) (v := ?_) rfl (by kernel_rfl) (by kernel_rfl) (by kernel_rfl) (fun _ _ _ h => h) (Or.inl ⟨by rfl, ?_⟩) (by assumption) ?_
            rotate_left
            · intro w hSw
              (try dsimp only at hSw)
              go_simp
              (try with_reducible rfl)
            (try simp only [List.getElem_toArray, List.getElem_cons_zero, List.getElem_cons_succ, Act.put, List.setIfInBounds_toArray, List.set_cons_zero, List.set_cons_succ])
            refine wpAnyH_take (i := 3) (v := ?_) rfl (by kernel_rfl) (by kernel_rfl) (by kernel_rfl) (fun _ _ _ h => h) (Or.inl ⟨by rfl, ?_⟩) (by assumption) ?_
            rotate_left
            · intro w hSw
              (try dsimp only at hSw)
              go_simp
              (try with_reducible rfl)
            (try simp only [List.getElem_toArray, List.getElem_cons_zero, List.getElem_cons_succ, Act.put, List.setIfInBounds_toArray, List.set_cons_zero, List.set_cons_succ])
            refine wpAnyH_ready (rs := [4]) (by kernel_rfl) (by simp) ?_
            refine AllReadyH.cons (o := _) rfl (fun Kc hKc => ?_) AllReadyH.nil
            go_simp
            go_at_call 65
            refine (t_sign _ _ q 5100 (by decide) (HQI.out.below F0)).mono ?_
            rintro e w' ⟨he, hb⟩
            rw [hsgr] at he
            subst he
            have F1 := chain2 F0 hb
            dsimp only
            refine hKc.out _ _ (HC.out _ F1) (fun hHeld => ?_)
            clear hKc Kc
            (try simp only [List.getElem_toArray, List.getElem_cons_zero, List.getElem_cons_succ, Act.put, List.setIfInBounds_toArray, List.set_cons_zero, List.set_cons_succ])
            refine wpAnyH_take (i := 5) (v := ?_) rfl (by kernel_rfl) (by kernel_rfl) (by kernel_rfl) (fun _ _ _ h => h) (Or.inl ⟨by rfl, ?_⟩) (by assumption) ?_
            rotate_left
            · intro w hSw
              (try dsimp only at hSw)
              go_simp
              (try with_reducible rfl)
            (try simp only [List.getElem_toArray, List.getElem_cons_zero, List.getElem_cons_succ, Act.put, List.setIfInBounds_toArray, List.set_cons_zero, List.set_cons_succ])
            refine wpAnyH_take (i := 6) (v := ?_) rfl (by kernel_rfl) (by kernel_rfl) (by kernel_rfl) (fun _ _ _ h => h) (Or.inl ⟨by rfl, ?_⟩) (by assumption) ?_
            rotate_left
            · intro w hSw
              (try dsimp only at hSw)
              go_simp
              (try with_reducible rfl)
            (try simp only [List.getElem_toArray, List.getElem_cons_zero, List.getElem_cons_succ, Act.put, List.setIfInBounds_toArray, List.set_cons_zero, List.set_cons_succ])
            refine wpAnyH_take (i := 7) (v := ?_) rfl (by kernel_rfl) (by kernel_rfl) (by kernel_rfl) (fun _ _ _ h => h) (Or.inl ⟨by rfl, ?_⟩) (by assumption) ?_
            rotate_left
            · intro w hSw
              (try dsimp only at hSw)
              go_simp
              (try with_reducible rfl)
            (try simp only [List.getElem_toArray, List.getElem_cons_zero, List.getElem_cons_succ, Act.put, List.setIfInBounds_toArray, List.set_cons_zero, List.set_cons_succ])
            refine wpAnyH_take (i := 8) (v := ?_) rfl (by kernel_rfl) (by kernel_rfl) (by kernel_rfl) (fun _ _ _ h => h) (Or.inl ⟨by rfl, ?_⟩) (by assumption) ?_
            rotate_left
            · intro w hSw
              (try dsimp only at hSw)
              go_simp
              (try with_reducible rfl)
            (try simp only [List.getElem_toArray, List.getElem_cons_zero, List.getElem_cons_succ, Act.put, List.setIfInBounds_toArray, List.set_cons_zero, List.set_cons_succ])
            refine wpAnyH_take (i := 9) (v := ?_) rfl (by kernel_rfl) (by kernel_rfl) (by kernel_rfl) (fun _ _ _ h => h) (Or.inl ⟨by rfl, ?_⟩) (by assumption) ?_
            rotate_left
            · intro w hSw
              (try dsimp only at hSw)
              go_simp
              (try with_reducible rfl)
            (try simp only [List.getElem_toArray, List.getElem_cons_zero, List.getElem_cons_succ, Act.put, List.setIfInBounds_toArray, List.set_cons_zero, List.set_cons_succ])
            refine wpAnyH_take (i := 10) (v := ?_) rfl (by kernel_rfl) (by kernel_rfl) (by kernel_rfl) (fun _ _ _ h => h) (Or.inl ⟨by rfl, ?_⟩) (by assumption) ?_
            rotate_left
            · intro w hSw
              (try dsimp only at hSw)
              go_simp
              (try with_reducible rfl)
            (try simp only [List.getElem_toArray, List.getElem_cons_zero, List.getElem_cons_succ, Act.put, List.setIfInBounds_toArray, List.set_cons_zero, List.set_cons_succ])
            refine wpAnyH_take (i := 11) (v := ?_) rfl (by kernel_rfl) (by kernel_rfl) (by kernel_rfl) (fun _ _ _ h => h) (Or.inl ⟨by rfl, ?_⟩) (by assumption) ?_
            rotate_left
            · intro w hSw
              (try dsimp only at hSw)
              go_simp
              (try with_reducible rfl)
            (try simp only [List.getElem_toArray, List.getElem_cons_zero, List.getElem_cons_succ, Act.put, List.setIfInBounds_toArray, List.set_cons_zero, List.set_cons_succ])
            refine wpAnyH_take (i := 12) (v := ?_) rfl (by kernel_rfl) (by kernel_rfl) (by kernel_rfl) (fun _ _ _ h => h) (Or.inl ⟨by rfl, ?_⟩) (by assumption) ?_
            rotate_left
            · intro w hSw
              (try dsimp only at hSw)
              go_simp
              (try with_reducible rfl)
            (try simp only [List.getElem_toArray, List.getElem_cons_zero, List.getElem_cons_succ, Act.put, List.setIfInBounds_toArray, List.set_cons_zero, List.set_cons_succ])
            refine wpAnyH_take (i := 13) (v := ?_) rfl (by kernel_rfl) (by kernel_rfl) (by kernel_rfl) (fun _ _ _ h => h) (Or.inl ⟨by rfl, ?_⟩) (by assumption) ?_
            rotate_left
            · intro w hSw
              (try dsimp only at hSw)
              go_simp
              (try with_reducible rfl)
            (try simp only [List.getElem_toArray, List.getElem_cons_zero, List.getElem_cons_succ, Act.put, List.setIfInBounds_toArray, List.set_cons_zero, List.set_cons_succ])
            refine wpAnyH_take (i := 14) (v := ?_) rfl (by kernel_rfl) (by kernel_rfl) (by kernel_rfl) (fun _ _ _ h => h) (Or.inl ⟨by rfl, ?_⟩) (by assumption) ?_
            rotate_left
            · intro w hSw
              (try dsimp only at hSw)
              go_simp
              (try with_reducible rfl)
            (try simp only [List.getElem_toArray, List.getElem_cons_zero, List.getElem_cons_succ, Act.put, List.setIfInBounds_toArray, List.set_cons_zero, List.set_cons_succ])
            refine wpAnyH_take (i := 15) (v := ?_) rfl (by kernel_rfl) (by kernel_rfl) (by kernel_rfl) (fun _ _ _ h => h) (Or.inl ⟨by rfl, ?_⟩) (by assumption) ?_
            rotate_left
            · intro w hSw
              (try dsimp only at hSw)
              go_simp
              (try with_reducible rfl)
            (try simp only [List.getElem_toArray, List.getElem_cons_zero, List.getElem_cons_succ, Act.put, List.setIfInBounds_toArray, List.set_cons_zero, List.set_cons_succ])
            refine wpAnyH_ready (rs := [16]) (by kernel_rfl) (by simp) ?_
            refine AllReadyH.cons (o := _) rfl (fun Kc hKc => ?_) AllReadyH.nil
            go_simp
            go_at_call 8
            refine (t_of _ qty HQT.out.1 HQT.out.2).mono ?_
            rintro e w' ⟨v1, rfl, nv1, hb⟩
            have F2 := chain2 F1 hb
            replace nv1 := nv1.mono (show 3 ≤ 5100 by decide)
            dsimp only
            refine hKc.out _ _ (HC.out _ F2) (fun hHeld => ?_)
            clear hKc Kc
            (try simp only [List.getElem_toArray, List.getElem_cons_zero, List.getElem_cons_succ, Act.put, List.setIfInBounds_toArray, List.set_cons_zero, List.set_cons_succ])
            refine wpAnyH_ready (rs := [17]) (by kernel_rfl) (by simp) ?_
            refine AllReadyH.cons (o := _) rfl (fun Kc hKc => ?_) AllReadyH.nil
            go_simp
            go_at_call 45
            refine (t_cmp _ _ _ q (qty : Rat) 5100 (by decide) (HQI.out.below F2) nv1).mono ?_
            rintro e w' ⟨he, hb⟩
            rw [hcmr] at he
            subst he
            have F3 := chain2 F2 hb
            dsimp only
            refine hKc.out _ _ (HC.out _ F3) (fun hHeld => ?_)
            clear hKc Kc
            (try simp only [List.getElem_toArray, List.getElem_cons_zero, List.getElem_cons_succ, Act.put, List.setIfInBounds_toArray, List.set_cons_zero, List.set_cons_succ])
            refine wpAnyH_take (i := 18) (v := ?_) rfl (by kernel_rfl) (by kernel_rfl) (by kernel_rfl) (fun _ _ _ h => h) (Or.inl ⟨by rfl, ?_⟩) (by assumption) ?_
            rotate_left
            · intro w hSw
              (try dsimp only at hSw)
              go_simp
              (try with_reducible rfl)
            (try simp only [List.getElem_toArray, List.getElem_cons_zero, List.getElem_cons_succ, Act.put, List.setIfInBounds_toArray, List.set_cons_zero, List.set_cons_succ])
            refine wpAnyH_take (i := 19) (v := ?_) rfl (by kernel_rfl) (by kernel_rfl) (by kernel_rfl) (fun _ _ _ h => h) (Or.inl ⟨by rfl, ?_⟩) (by assumption) ?_
            rotate_left
            · intro w hSw
              (try dsimp only at hSw)
              go_simp
              (try with_reducible rfl)
            (try simp only [List.getElem_toArray, List.getElem_cons_zero, List.getElem_cons_succ, Act.put, List.setIfInBounds_toArray, List.set_cons_zero, List.set_cons_succ])
            refine wpAnyH_done (by kernel_rfl) ?_ _
            refine NoPanic.normal ?_

            have HBF := hid (HBW.out.trans (F3.mono HBW.out.size))
            clear F0 F1 F2 F3 hHeld
            go_wp2_with fail
            go_roundw
            case rel => exact ⟨k + 1, by omega, by go_num, HNY, HBF⟩
            case measure => simp [intOf]; omega
      · obtain rfl : k = Q.length := by omega
        have HYES := hid (show OkS g S ∧ ∃ Q, Nums X Q ∧ Takes S Q from ⟨HOS.out, Q, HNU.out, HLEN.out, fun i h hx => HPA.out i hx h hx⟩)
        go_wp2_with fail
        go_ret
        exact ⟨⟨true, rfl, by simp [HYES.out]⟩, HBR.out⟩
end Go.Proofs.YtcdkoadobdgbhaaGreatDoor
