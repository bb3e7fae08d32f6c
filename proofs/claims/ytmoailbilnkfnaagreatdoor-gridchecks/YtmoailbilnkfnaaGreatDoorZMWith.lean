/- grid: the document's Within. -/
import Derived.Test.YtmoailbilnkfnaaGreatDoorZIWith0
import Derived.Test.YtmoailbilnkfnaaGreatDoorPk42
import Derived.Test.YtmoailbilnkfnaaGreatDoorPk39
import Derived.Deep.RegionHeld3
namespace Go.Proofs.YtmoailbilnkfnaaGreatDoor
open Go.RowKit
set_option linter.unusedVariables false
set_option maxRecDepth 100000
set_option linter.unusedSimpArgs false

set_option maxHeartbeats 12800000 in
theorem mwithinG_any (w : World) (g : Gr) (la : Option Addr) (lc : Nat) (h : Lns w (.slice la g.lines.length lc) g.lines) (ok : gok g = true) (fv : Value) (F : List ByteArray) (hf : Strs w fv F) (m K : Nat) (hm100 : m ≤ 100000) (hmK : m / 9 + 8 ≤ K) (hK : K ≤ 12000) (hsz : ∀ s ∈ F, s.size ≤ m) (hF1 : F.length ≤ 1000) :
    Calls Tryz.prog 16 #[.agg #[.int .i64 g.zones, .int .i64 g.hours, .slice la g.lines.length lc, .int .i64 g.low, .int .i64 g.high], fv] w fun e w' => (∃ R, e = .returned (.bool R) ∧ WiR F g.lines R) ∧ Below w.heap.size w w' := by
  obtain ⟨-, -, -, hl3, hok⟩ := gok_iff.1 ok
  have HCP := hid (fun (l : Ln) (hl : l ∈ g.lines) => show 0 ≤ l.c ∧ l.c ≤ 1000 by have := lnok_iff.1 (hok l hl); omega)
  have HNU0 := hid (fun (Y : World) (b : Below w.heap.size w Y) => hNumbersW_any Y fv F (hf.below b) m K hm100 hmK hsz hF1)
  obtain ⟨fa, fc, hfe, fl, fm⟩ := hf.slice
  have hK3 : 3 ≤ K := by omega
  obtain ⟨Z, H, lo, hi, S⟩ := g
  simp only at h hl3 HCP ⊢
  have b0 := ibel w (Obj.cells #[.int .i64 Z, .int .i64 H, .slice la S.length lc, .int .i64 lo, .int .i64 hi] 24)
  have x0 := inew w (Obj.cells #[.int .i64 Z, .int .i64 H, .slice la S.length lc, .int .i64 lo, .int .i64 hi] 24)
  have z2 := ibx x0 2 (.slice la S.length lc) rfl
  have HNU := hid (HNU0.out (w.alloc (Obj.cells #[.int .i64 Z, .int .i64 H, .slice la S.length lc, .int .i64 lo, .int .i64 hi] 24)) b0)
  have HL := hid (h.below b0)
  obtain ⟨a', c', e', hl, hm⟩ := h.slice
  simp only [Value.slice.injEq] at e'
  obtain ⟨rfl, -, rfl⟩ := e'
  unfold maxLen at hm fm
  have HB0 := hid b0
  subst hfe
  clear h x0 b0 ok hok hf hsz hm100 hmK HNU0 hF1
  go_enter Tryz.func16, Tryz.ntmps16
  go_wp2_with fail
  generalize hW : w.alloc (Obj.cells #[.int .i64 Z, .int .i64 H, .slice la S.length lc, .int .i64 lo, .int .i64 hi] 24) = W at *
  clear hW
  refine HNU.out.mono ?_
  rintro e X1 ⟨hr, bX1⟩
  have B1 := HB0.out.trans (bX1.mono HB0.out.size)
  have z2 := ikc bX1 z2
  have HL := hid (HL.out.below bX1)
  clear HNU bX1 HB0
  rcases hr with ⟨X, tv, C, hnu, rfl, hls⟩ | ⟨hno, rfl⟩
  case inr =>
    have HQ := hid (WiR.num (S := S) hno)
    clear hno
    go_wp2_with fail
    go_ret
    exact ⟨⟨_, rfl, HQ.out⟩, B1⟩
  have HNUX := hid hnu
  have HLS := hid hls
  obtain ⟨ta, tc, hte, tl, tm⟩ := hls.slice
  have HXF := hid hnu.len
  rw [HXF.out] at hte tl
  subst hte
  clear hnu hls
  by_cases hFS : F.length = S.length
  case neg =>
    have HQ := hid (WiR.len hFS)
    have hn1 : ((F.length : Int) == (S.length : Int)) = false := by simp; omega
    have hn2 : ((F.length : Int) != (S.length : Int)) = true := by simp; omega
    clear hFS
    go_wp2_with fail
    go_ret
    exact ⟨⟨_, rfl, HQ.out⟩, B1⟩
  have HFS := hid hFS
  have hn1 : ((F.length : Int) == (S.length : Int)) = true := by simp; omega
  have hn2 : ((F.length : Int) != (S.length : Int)) = false := by simp; omega
  have HXL := hid (HXF.out.trans hFS)
  clear hFS
  go_wp2_with fail
  go_loopw [7] (fun i wr => ∃ (k : Nat), k ≤ F.length ∧ i = .int .i64 (k : Int) ∧ Hid (∀ j (h : j < S.length), j < k → ((-S[j].c : Int) : Rat) ≤ rat' X j ∧ rat' X j ≤ ((S[j].c : Int) : Rat)) ∧ Below X1.heap.size X1 wr) (fun i _ => F.length - (intOf i).toNat)
  case atStart => exact ⟨0, Nat.zero_le _, rfl, hid (fun j _ h => absurd h (Nat.not_lt_zero _)), Below.refl _ _⟩
  case round =>
    obtain ⟨k, hk, rfl, HIN, bW⟩ := hrel
    by_cases hlt : k < F.length
    · have hltS : k < S.length := by have := HFS.out; omega
      have hltI : (k : Int) < (F.length : Int) := by omega
      obtain ⟨b, off, c', e, _, _, q0, q1, q2⟩ := (HL.out.below bW).at k hltS
      simp only [Value.slice.injEq] at e
      obtain ⟨rfl, -, rfl⟩ := e
      have z2w := ikc bW z2
      have hli : (0 : Int) ≤ (k : Int) ∧ (k : Int) < (S.length : Int) := by omega
      have hlf : (0 : Int) ≤ (k : Int) ∧ (k : Int) < (F.length : Int) := by omega
      have hfit := HCP.out _ (List.getElem_mem hltS)
      have HNO := hid (fun hh => WiR.no HNUX.out k hltS hh)
      have HYE := hid (fun (hh : ((-S[k].c : Int) : Rat) ≤ rat' X k ∧ rat' X k ≤ ((S[k].c : Int) : Rat)) => show ∀ j (h : j < S.length), j < k + 1 → ((-S[j].c : Int) : Rat) ≤ rat' X j ∧ rat' X j ≤ ((S[j].c : Int) : Rat) from fun j hj hjk => by
        by_cases hjj : j < k
        · exact HIN.out j hj hjj
        · obtain rfl : j = k := by omega
          exact hh)
      have HXK := hid (show X[k]'(by rw [HXL.out]; exact hltS) = rat' X k from rat_get _)
      generalize S[k] = l at *
      obtain ⟨lf, lt, lcap⟩ := l
      simp only at hfit q0 q1 q2 HNO HYE
      obtain ⟨fb, xc, _, _, _, _, e, _, d0, d1, d2, d3, hqf⟩ := (Ls.below (fun h b => h.below b) HLS.out bW).at k (by rw [HXL.out]; exact hltS)
      rw [HXF.out] at e
      simp only [Value.slice.injEq] at e
      obtain ⟨rfl, -, rfl⟩ := e
      obtain ⟨h1, h2, h3, h4, h5, h6, h7, h8, e⟩ := hqf.form
      simp only [Value.agg.injEq, Array.mk.injEq, List.cons.injEq, and_true] at e
      obtain ⟨rfl, rfl, rfl, rfl⟩ := e
      rw [HXK.out] at hqf
      have HQF0 := hid hqf
      generalize rat' X k = xk at *
      clear hqf HXK HIN
      go_wp2_with fail
      refine (t_of wr lcap (by omega) (by omega)).mono ?_
      rintro e Y0 ⟨v0, rfl, n0, bY0⟩
      obtain ⟨s1, s2, s3, s4, s5, s6, s7, s8, rfl⟩ := n0.form
      have bA := ibel Y0 (Obj.cells #[.bool s1, .slice s2 s3 s4, .bool s5, .slice s6 s7 s8] 38)
      obtain ⟨c0, c1, c2, c3⟩ := four_cell (inew Y0 (Obj.cells #[.bool s1, .slice s2 s3 s4, .bool s5, .slice s6 s7 s8] 38))
      have bYA := chain2 bY0 bA
      have HQC := hid ((n0.mono hK3).below bA)
      have HQF := hid (HQF0.out.below bYA)
      have BW2 := bW.trans (bYA.mono bW.size)
      have d0 := ikc bYA d0
      have d1 := ikc bYA d1
      have d2 := ikc bYA d2
      have d3 := ikc bYA d3
      clear n0 bY0 bA bYA HQF0 q0 q1 q2 z2w
      go_wp2_with (first | (refine wpList_store_fresh rfl 38 _ _ rfl _ _ _ rfl (by simp) rfl 4 info_refRat (by rfl) (by rfl) (by simp [Value.oneCell']) ?_) | fail)
      generalize Y0.alloc (Obj.cells #[.bool s1, .slice s2 s3 s4, .bool s5, .slice s6 s7 s8] 38) = W at *
      generalize Y0.heap.size = cb at *
      obtain ⟨r1, HR1⟩ : ∃ r, Hid (cmpR xk (-((lcap : Int) : Rat)) = r) := ⟨_, hid rfl⟩
      obtain ⟨r2, HR2⟩ : ∃ r, Hid (cmpR xk ((lcap : Int) : Rat) = r) := ⟨_, hid rfl⟩
      have HC1 := hid (fun (Y : World) (u v : Value) (h1 : TIs Y u xk K) (h2 : TIs Y v ((lcap : Int) : Rat) K) => show Calls Tryz.prog 37 #[u, v] Y (fun e w' => e = .returned (.int .i64 r2) ∧ Below Y.heap.size Y w') by rw [← HR2.out]; exact t_cmp Y u v _ _ K (by omega) h1 h2)
      have HC2 := hid (fun (Y : World) (u v : Value) (h1 : TIs Y u xk K) (h2 : TIs Y v (-((lcap : Int) : Rat)) (K + 3)) => show Calls Tryz.prog 37 #[u, v] Y (fun e w' => e = .returned (.int .i64 r1) ∧ Below Y.heap.size Y w') by rw [← HR1.out]; exact t_cmp Y u v _ _ (K + 3) (by omega) (h1.mono (by omega)) h2)
      have HTN := hid (fun (Y : World) (v : Value) (h : TIs Y v ((lcap : Int) : Rat) K) => t_neg Y v _ K (by omega) h)
      have hng : -((lcap : Int) : Rat) = ((-lcap : Int) : Rat) := (Rat.intCast_neg lcap).symm
      have HL1 := hid (show decide (r1 < 0) = decide (xk < ((-lcap : Int) : Rat)) by rw [← HR1.out, cmp_lt0, hng])
      have HL2 := hid (show decide (0 < r2) = decide (((lcap : Int) : Rat) < xk) by rw [← HR2.out]; exact cmp_gt0 _ _)
      have HKx := hid (fun (Y : World) (kz : Below W.heap.size W Y) => show (Y.cell? ⟨cb, 0, none⟩ = some (.bool s1) ∧ Y.cell? ⟨cb, 1, none⟩ = some (.slice s2 s3 s4) ∧ Y.cell? ⟨cb, 2, none⟩ = some (.bool s5) ∧ Y.cell? ⟨cb, 3, none⟩ = some (.slice s6 s7 s8) ∧ Y.cell? ⟨fb, k * 4, none⟩ = some (.bool h1) ∧ Y.cell? ⟨fb, k * 4 + 1, none⟩ = some (.slice h2 h3 h4) ∧ Y.cell? ⟨fb, k * 4 + 2, none⟩ = some (.bool h5) ∧ Y.cell? ⟨fb, k * 4 + 3, none⟩ = some (.slice h6 h7 h8)) from ⟨ikc kz c0, ikc kz c1, ikc kz c2, ikc kz c3, ikc kz d0, ikc kz d1, ikc kz d2, ikc kz d3⟩)
      have F0 : Below W.heap.size W W.drew := (Below.refl _ _).drew
      clear HR1 HR2 hng c0 c1 c2 c3 d0 d1 d2 d3
      by_cases hx2 : ((lcap : Int) : Rat) < xk
      · have hr2 : decide (0 < r2) = true := by rw [HL2.out]; exact decide_eq_true hx2
        have HQ := hid (HNO.out (fun q => Rat.lt_irrefl (Std.lt_of_lt_of_le hx2 q.2)))
        clear HL1 HL2 HNO HYE hx2
        refine wp_region_noPanic ?_
        refine wp_region_held_drew (S := fun Y => Y.cell? ⟨cb, 0, none⟩ = some (.bool s1) ∧ Y.cell? ⟨cb, 1, none⟩ = some (.slice s2 s3 s4) ∧ Y.cell? ⟨cb, 2, none⟩ = some (.bool s5) ∧ Y.cell? ⟨cb, 3, none⟩ = some (.slice s6 s7 s8) ∧ Y.cell? ⟨fb, k * 4, none⟩ = some (.bool h1) ∧ Y.cell? ⟨fb, k * 4 + 1, none⟩ = some (.slice h2 h3 h4) ∧ Y.cell? ⟨fb, k * 4 + 2, none⟩ = some (.bool h5) ∧ Y.cell? ⟨fb, k * 4 + 3, none⟩ = some (.slice h6 h7 h8)) (by kernel_rfl) (HKx.out _ F0) (fun hHeld => ?_)
        refine wpAnyH_take (i := 0) (v := ?_) rfl (by kernel_rfl) (by kernel_rfl) (by kernel_rfl) (fun _ _ _ h => h) (Or.inl ⟨by rfl, ?_⟩) (by assumption) ?_
        rotate_left
        · intro w hSw
          (try dsimp only at hSw)
          go_simp
          (try with_reducible rfl)
        (try simp only [List.getElem_toArray, List.getElem_cons_zero, List.getElem_cons_succ, Act.put, List.setIfInBounds_toArray, List.set_cons_zero, List.set_cons_succ])
        refine wpAnyH_take (i := 1) (v := ?_) rfl (by kernel_rfl) (by kernel_rfl) (by kernel_rfl) (fun _ _ _ h => h) (Or.inl ⟨by rfl, ?_⟩) (by assumption) ?_
        rotate_left
        · intro w hSw
          (try dsimp only at hSw)
          go_simp
          (try with_reducible rfl)
        (try simp only [List.getElem_toArray, List.getElem_cons_zero, List.getElem_cons_succ, Act.put, List.setIfInBounds_toArray, List.set_cons_zero, List.set_cons_succ])
        refine wpAnyH_take (i := 2) (v := ?_) rfl (by kernel_rfl) (by kernel_rfl) (by kernel_rfl) (fun _ _ _ h => h) (Or.inl ⟨by rfl, ?_⟩) (by assumption) ?_
        rotate_left
        · intro w hSw
          (try dsimp only at hSw)
          go_simp
          (try with_reducible rfl)
        (try simp only [List.getElem_toArray, List.getElem_cons_zero, List.getElem_cons_succ, Act.put, List.setIfInBounds_toArray, List.set_cons_zero, List.set_cons_succ])
        refine wpAnyH_take (i := 3) (v := ?_) rfl (by kernel_rfl) (by kernel_rfl) (by kernel_rfl) (fun _ _ _ h => h) (Or.inl ⟨by rfl, ?_⟩) (by assumption) ?_
        rotate_left
        · intro w hSw
          (try dsimp only at hSw)
          go_simp
          (try with_reducible rfl)
        (try simp only [List.getElem_toArray, List.getElem_cons_zero, List.getElem_cons_succ, Act.put, List.setIfInBounds_toArray, List.set_cons_zero, List.set_cons_succ])
        refine wpAnyH_take (i := 4) (v := ?_) rfl (by kernel_rfl) (by kernel_rfl) (by kernel_rfl) (fun _ _ _ h => h) (Or.inl ⟨by rfl, ?_⟩) (by assumption) ?_
        rotate_left
        · intro w hSw
          (try dsimp only at hSw)
          go_simp
          (try with_reducible rfl)
        (try simp only [List.getElem_toArray, List.getElem_cons_zero, List.getElem_cons_succ, Act.put, List.setIfInBounds_toArray, List.set_cons_zero, List.set_cons_succ])
        refine wpAnyH_ready (rs := [5]) (by kernel_rfl) (by simp) ?_
        refine AllReadyH.cons (o := _) rfl (fun K hK => ?_) AllReadyH.nil
        go_simp
        (go_at_call 37; refine (HC1.out _ _ _ (HQF.out.below F0) (HQC.out.below F0)).mono ?_; rintro e Y1 ⟨rfl, bb⟩; have F1 : Below W.heap.size W Y1 := ⟨bb.os, bb.tape, bb.output, bb.size, bb.block⟩)
        dsimp only
        refine hK.out _ _ (HKx.out _ F1) (fun hHeld => ?_)
        clear hK K
        (try simp only [List.getElem_toArray, List.getElem_cons_zero, List.getElem_cons_succ, Act.put, List.setIfInBounds_toArray, List.set_cons_zero, List.set_cons_succ])
        refine wpAnyH_take (i := 6) (v := ?_) rfl (by kernel_rfl) (by kernel_rfl) (by kernel_rfl) (fun _ _ _ h => h) (Or.inl ⟨by rfl, ?_⟩) (by assumption) ?_
        rotate_left
        · intro w hSw
          (try dsimp only at hSw)
          go_simp
          (try with_reducible rfl)
        (try simp only [List.getElem_toArray, List.getElem_cons_zero, List.getElem_cons_succ, Act.put, List.setIfInBounds_toArray, List.set_cons_zero, List.set_cons_succ])
        refine wpAnyH_take (i := 7) (v := ?_) rfl (by kernel_rfl) (by kernel_rfl) (by kernel_rfl) (fun _ _ _ h => h) (Or.inl ⟨by rfl, ?_⟩) (by assumption) ?_
        rotate_left
        · intro w hSw
          (try dsimp only at hSw)
          go_simp
          (try with_reducible rfl)
        (try simp only [List.getElem_toArray, List.getElem_cons_zero, List.getElem_cons_succ, Act.put, List.setIfInBounds_toArray, List.set_cons_zero, List.set_cons_succ])
        refine wpAnyH_take (i := 8) (v := undef) rfl (by kernel_rfl) (by kernel_rfl) (by kernel_rfl) (fun _ _ _ h => h) (Or.inr ⟨by rfl, rfl⟩) (by assumption) ?_
        (try simp only [List.getElem_toArray, List.getElem_cons_zero, List.getElem_cons_succ, Act.put, List.setIfInBounds_toArray, List.set_cons_zero, List.set_cons_succ])
        refine wpAnyH_take (i := 9) (v := undef) rfl (by kernel_rfl) (by kernel_rfl) (by kernel_rfl) (fun _ _ _ h => h) (Or.inr ⟨by rfl, rfl⟩) (by assumption) ?_
        (try simp only [List.getElem_toArray, List.getElem_cons_zero, List.getElem_cons_succ, Act.put, List.setIfInBounds_toArray, List.set_cons_zero, List.set_cons_succ])
        refine wpAnyH_take (i := 10) (v := undef) rfl (by kernel_rfl) (by kernel_rfl) (by kernel_rfl) (fun _ _ _ h => h) (Or.inr ⟨by rfl, rfl⟩) (by assumption) ?_
        (try simp only [List.getElem_toArray, List.getElem_cons_zero, List.getElem_cons_succ, Act.put, List.setIfInBounds_toArray, List.set_cons_zero, List.set_cons_succ])
        refine wpAnyH_take (i := 11) (v := undef) rfl (by kernel_rfl) (by kernel_rfl) (by kernel_rfl) (fun _ _ _ h => h) (Or.inr ⟨by rfl, rfl⟩) (by assumption) ?_
        (try simp only [List.getElem_toArray, List.getElem_cons_zero, List.getElem_cons_succ, Act.put, List.setIfInBounds_toArray, List.set_cons_zero, List.set_cons_succ])
        refine wpAnyH_take (i := 12) (v := undef) rfl (by kernel_rfl) (by kernel_rfl) (by kernel_rfl) (fun _ _ _ h => h) (Or.inr ⟨by rfl, rfl⟩) (by assumption) ?_
        (try simp only [List.getElem_toArray, List.getElem_cons_zero, List.getElem_cons_succ, Act.put, List.setIfInBounds_toArray, List.set_cons_zero, List.set_cons_succ])
        refine wpAnyH_take (i := 13) (v := undef) rfl (by kernel_rfl) (by kernel_rfl) (by kernel_rfl) (fun _ _ _ h => h) (Or.inr ⟨by rfl, rfl⟩) (by assumption) ?_
        (try simp only [List.getElem_toArray, List.getElem_cons_zero, List.getElem_cons_succ, Act.put, List.setIfInBounds_toArray, List.set_cons_zero, List.set_cons_succ])
        refine wpAnyH_take (i := 14) (v := undef) rfl (by kernel_rfl) (by kernel_rfl) (by kernel_rfl) (fun _ _ _ h => h) (Or.inr ⟨by rfl, rfl⟩) (by assumption) ?_
        (try simp only [List.getElem_toArray, List.getElem_cons_zero, List.getElem_cons_succ, Act.put, List.setIfInBounds_toArray, List.set_cons_zero, List.set_cons_succ])
        refine wpAnyH_take (i := 15) (v := undef) rfl (by kernel_rfl) (by kernel_rfl) (by kernel_rfl) (fun _ _ _ h => h) (Or.inr ⟨by rfl, rfl⟩) (by assumption) ?_
        (try simp only [List.getElem_toArray, List.getElem_cons_zero, List.getElem_cons_succ, Act.put, List.setIfInBounds_toArray, List.set_cons_zero, List.set_cons_succ])
        refine wpAnyH_take (i := 16) (v := ?_) rfl (by kernel_rfl) (by kernel_rfl) (by kernel_rfl) (fun _ _ _ h => h) (Or.inl ⟨by rfl, ?_⟩) (by assumption) ?_
        rotate_left
        · intro w hSw
          (try dsimp only at hSw)
          go_simp
          (try with_reducible rfl)
        (try simp only [List.getElem_toArray, List.getElem_cons_zero, List.getElem_cons_succ, Act.put, List.setIfInBounds_toArray, List.set_cons_zero, List.set_cons_succ])
        refine wpAnyH_done (by kernel_rfl) ?_ _
        refine NoPanic.normal ?_
        have BF := B1.trans ((BW2.trans (F1.mono BW2.size)).mono B1.size)
        go_wp2_with fail
        go_ret
        exact ⟨⟨_, rfl, HQ.out⟩, BF⟩
      have hr2 : decide (0 < r2) = false := by rw [HL2.out]; exact decide_eq_false hx2
      by_cases hx1 : xk < ((-lcap : Int) : Rat)
      · have hr1 : decide (r1 < 0) = true := by rw [HL1.out]; exact decide_eq_true hx1
        have HQ := hid (HNO.out (fun q => Rat.lt_irrefl (Std.lt_of_lt_of_le hx1 q.1)))
        clear HL1 HL2 HNO HYE hx1 hx2
        refine wp_region_noPanic ?_
        refine wp_region_held_drew (S := fun Y => Y.cell? ⟨cb, 0, none⟩ = some (.bool s1) ∧ Y.cell? ⟨cb, 1, none⟩ = some (.slice s2 s3 s4) ∧ Y.cell? ⟨cb, 2, none⟩ = some (.bool s5) ∧ Y.cell? ⟨cb, 3, none⟩ = some (.slice s6 s7 s8) ∧ Y.cell? ⟨fb, k * 4, none⟩ = some (.bool h1) ∧ Y.cell? ⟨fb, k * 4 + 1, none⟩ = some (.slice h2 h3 h4) ∧ Y.cell? ⟨fb, k * 4 + 2, none⟩ = some (.bool h5) ∧ Y.cell? ⟨fb, k * 4 + 3, none⟩ = some (.slice h6 h7 h8)) (by kernel_rfl) (HKx.out _ F0) (fun hHeld => ?_)
        refine wpAnyH_take (i := 0) (v := ?_) rfl (by kernel_rfl) (by kernel_rfl) (by kernel_rfl) (fun _ _ _ h => h) (Or.inl ⟨by rfl, ?_⟩) (by assumption) ?_
        rotate_left
        · intro w hSw
          (try dsimp only at hSw)
          go_simp
          (try with_reducible rfl)
        (try simp only [List.getElem_toArray, List.getElem_cons_zero, List.getElem_cons_succ, Act.put, List.setIfInBounds_toArray, List.set_cons_zero, List.set_cons_succ])
        refine wpAnyH_take (i := 1) (v := ?_) rfl (by kernel_rfl) (by kernel_rfl) (by kernel_rfl) (fun _ _ _ h => h) (Or.inl ⟨by rfl, ?_⟩) (by assumption) ?_
        rotate_left
        · intro w hSw
          (try dsimp only at hSw)
          go_simp
          (try with_reducible rfl)
        (try simp only [List.getElem_toArray, List.getElem_cons_zero, List.getElem_cons_succ, Act.put, List.setIfInBounds_toArray, List.set_cons_zero, List.set_cons_succ])
        refine wpAnyH_take (i := 2) (v := ?_) rfl (by kernel_rfl) (by kernel_rfl) (by kernel_rfl) (fun _ _ _ h => h) (Or.inl ⟨by rfl, ?_⟩) (by assumption) ?_
        rotate_left
        · intro w hSw
          (try dsimp only at hSw)
          go_simp
          (try with_reducible rfl)
        (try simp only [List.getElem_toArray, List.getElem_cons_zero, List.getElem_cons_succ, Act.put, List.setIfInBounds_toArray, List.set_cons_zero, List.set_cons_succ])
        refine wpAnyH_take (i := 3) (v := ?_) rfl (by kernel_rfl) (by kernel_rfl) (by kernel_rfl) (fun _ _ _ h => h) (Or.inl ⟨by rfl, ?_⟩) (by assumption) ?_
        rotate_left
        · intro w hSw
          (try dsimp only at hSw)
          go_simp
          (try with_reducible rfl)
        (try simp only [List.getElem_toArray, List.getElem_cons_zero, List.getElem_cons_succ, Act.put, List.setIfInBounds_toArray, List.set_cons_zero, List.set_cons_succ])
        refine wpAnyH_take (i := 4) (v := ?_) rfl (by kernel_rfl) (by kernel_rfl) (by kernel_rfl) (fun _ _ _ h => h) (Or.inl ⟨by rfl, ?_⟩) (by assumption) ?_
        rotate_left
        · intro w hSw
          (try dsimp only at hSw)
          go_simp
          (try with_reducible rfl)
        (try simp only [List.getElem_toArray, List.getElem_cons_zero, List.getElem_cons_succ, Act.put, List.setIfInBounds_toArray, List.set_cons_zero, List.set_cons_succ])
        refine wpAnyH_ready (rs := [5]) (by kernel_rfl) (by simp) ?_
        refine AllReadyH.cons (o := _) rfl (fun K hK => ?_) AllReadyH.nil
        go_simp
        (go_at_call 37; refine (HC1.out _ _ _ (HQF.out.below F0) (HQC.out.below F0)).mono ?_; rintro e Y1 ⟨rfl, bb⟩; have F1 : Below W.heap.size W Y1 := ⟨bb.os, bb.tape, bb.output, bb.size, bb.block⟩)
        dsimp only
        refine hK.out _ _ (HKx.out _ F1) (fun hHeld => ?_)
        clear hK K
        (try simp only [List.getElem_toArray, List.getElem_cons_zero, List.getElem_cons_succ, Act.put, List.setIfInBounds_toArray, List.set_cons_zero, List.set_cons_succ])
        refine wpAnyH_take (i := 6) (v := ?_) rfl (by kernel_rfl) (by kernel_rfl) (by kernel_rfl) (fun _ _ _ h => h) (Or.inl ⟨by rfl, ?_⟩) (by assumption) ?_
        rotate_left
        · intro w hSw
          (try dsimp only at hSw)
          go_simp
          (try with_reducible rfl)
        (try simp only [List.getElem_toArray, List.getElem_cons_zero, List.getElem_cons_succ, Act.put, List.setIfInBounds_toArray, List.set_cons_zero, List.set_cons_succ])
        refine wpAnyH_take (i := 7) (v := ?_) rfl (by kernel_rfl) (by kernel_rfl) (by kernel_rfl) (fun _ _ _ h => h) (Or.inl ⟨by rfl, ?_⟩) (by assumption) ?_
        rotate_left
        · intro w hSw
          (try dsimp only at hSw)
          go_simp
          (try with_reducible rfl)
        (try simp only [List.getElem_toArray, List.getElem_cons_zero, List.getElem_cons_succ, Act.put, List.setIfInBounds_toArray, List.set_cons_zero, List.set_cons_succ])
        refine wpAnyH_take (i := 8) (v := ?_) rfl (by kernel_rfl) (by kernel_rfl) (by kernel_rfl) (fun _ _ _ h => h) (Or.inl ⟨by rfl, ?_⟩) (by assumption) ?_
        rotate_left
        · intro w hSw
          (try dsimp only at hSw)
          go_simp
          (try with_reducible rfl)
        (try simp only [List.getElem_toArray, List.getElem_cons_zero, List.getElem_cons_succ, Act.put, List.setIfInBounds_toArray, List.set_cons_zero, List.set_cons_succ])
        refine wpAnyH_take (i := 9) (v := ?_) rfl (by kernel_rfl) (by kernel_rfl) (by kernel_rfl) (fun _ _ _ h => h) (Or.inl ⟨by rfl, ?_⟩) (by assumption) ?_
        rotate_left
        · intro w hSw
          (try dsimp only at hSw)
          go_simp
          (try with_reducible rfl)
        (try simp only [List.getElem_toArray, List.getElem_cons_zero, List.getElem_cons_succ, Act.put, List.setIfInBounds_toArray, List.set_cons_zero, List.set_cons_succ])
        refine wpAnyH_take (i := 10) (v := ?_) rfl (by kernel_rfl) (by kernel_rfl) (by kernel_rfl) (fun _ _ _ h => h) (Or.inl ⟨by rfl, ?_⟩) (by assumption) ?_
        rotate_left
        · intro w hSw
          (try dsimp only at hSw)
          go_simp
          (try with_reducible rfl)
        (try simp only [List.getElem_toArray, List.getElem_cons_zero, List.getElem_cons_succ, Act.put, List.setIfInBounds_toArray, List.set_cons_zero, List.set_cons_succ])
        refine wpAnyH_take (i := 11) (v := ?_) rfl (by kernel_rfl) (by kernel_rfl) (by kernel_rfl) (fun _ _ _ h => h) (Or.inl ⟨by rfl, ?_⟩) (by assumption) ?_
        rotate_left
        · intro w hSw
          (try dsimp only at hSw)
          go_simp
          (try with_reducible rfl)
        (try simp only [List.getElem_toArray, List.getElem_cons_zero, List.getElem_cons_succ, Act.put, List.setIfInBounds_toArray, List.set_cons_zero, List.set_cons_succ])
        refine wpAnyH_take (i := 12) (v := ?_) rfl (by kernel_rfl) (by kernel_rfl) (by kernel_rfl) (fun _ _ _ h => h) (Or.inl ⟨by rfl, ?_⟩) (by assumption) ?_
        rotate_left
        · intro w hSw
          (try dsimp only at hSw)
          go_simp
          (try with_reducible rfl)
        (try simp only [List.getElem_toArray, List.getElem_cons_zero, List.getElem_cons_succ, Act.put, List.setIfInBounds_toArray, List.set_cons_zero, List.set_cons_succ])
        refine wpAnyH_ready (rs := [13]) (by kernel_rfl) (by simp) ?_
        refine AllReadyH.cons (o := _) rfl (fun K hK => ?_) AllReadyH.nil
        go_simp
        (go_at_call 38; refine (HTN.out _ _ (HQC.out.below F1)).mono ?_; rintro e Y2 ⟨v2, rfl, n2, bb⟩; have F2 := chain2 F1 bb)
        dsimp only
        refine hK.out _ _ (HKx.out _ F2) (fun hHeld => ?_)
        clear hK K
        (try simp only [List.getElem_toArray, List.getElem_cons_zero, List.getElem_cons_succ, Act.put, List.setIfInBounds_toArray, List.set_cons_zero, List.set_cons_succ])
        refine wpAnyH_ready (rs := [14]) (by kernel_rfl) (by simp) ?_
        refine AllReadyH.cons (o := _) rfl (fun K hK => ?_) AllReadyH.nil
        go_simp
        (go_at_call 37; refine (HC2.out _ _ _ (HQF.out.below F2) n2).mono ?_; rintro e Y3 ⟨rfl, bb⟩; have F3 := chain2 F2 bb)
        dsimp only
        refine hK.out _ _ (HKx.out _ F3) (fun hHeld => ?_)
        clear hK K
        (try simp only [List.getElem_toArray, List.getElem_cons_zero, List.getElem_cons_succ, Act.put, List.setIfInBounds_toArray, List.set_cons_zero, List.set_cons_succ])
        refine wpAnyH_take (i := 15) (v := ?_) rfl (by kernel_rfl) (by kernel_rfl) (by kernel_rfl) (fun _ _ _ h => h) (Or.inl ⟨by rfl, ?_⟩) (by assumption) ?_
        rotate_left
        · intro w hSw
          (try dsimp only at hSw)
          go_simp
          (try with_reducible rfl)
        (try simp only [List.getElem_toArray, List.getElem_cons_zero, List.getElem_cons_succ, Act.put, List.setIfInBounds_toArray, List.set_cons_zero, List.set_cons_succ])
        refine wpAnyH_take (i := 16) (v := ?_) rfl (by kernel_rfl) (by kernel_rfl) (by kernel_rfl) (fun _ _ _ h => h) (Or.inl ⟨by rfl, ?_⟩) (by assumption) ?_
        rotate_left
        · intro w hSw
          (try dsimp only at hSw)
          go_simp
          (try with_reducible rfl)
        (try simp only [List.getElem_toArray, List.getElem_cons_zero, List.getElem_cons_succ, Act.put, List.setIfInBounds_toArray, List.set_cons_zero, List.set_cons_succ])
        refine wpAnyH_done (by kernel_rfl) ?_ _
        refine NoPanic.normal ?_
        have BF := B1.trans ((BW2.trans (F3.mono BW2.size)).mono B1.size)
        go_wp2_with fail
        go_ret
        exact ⟨⟨_, rfl, HQ.out⟩, BF⟩
      · have hr1 : decide (r1 < 0) = false := by rw [HL1.out]; exact decide_eq_false hx1
        have HIN2 := hid (HYE.out ⟨Rat.not_lt.1 hx1, Rat.not_lt.1 hx2⟩)
        clear HL1 HL2 HNO HYE hx1 hx2
        refine wp_region_noPanic ?_
        refine wp_region_held_drew (S := fun Y => Y.cell? ⟨cb, 0, none⟩ = some (.bool s1) ∧ Y.cell? ⟨cb, 1, none⟩ = some (.slice s2 s3 s4) ∧ Y.cell? ⟨cb, 2, none⟩ = some (.bool s5) ∧ Y.cell? ⟨cb, 3, none⟩ = some (.slice s6 s7 s8) ∧ Y.cell? ⟨fb, k * 4, none⟩ = some (.bool h1) ∧ Y.cell? ⟨fb, k * 4 + 1, none⟩ = some (.slice h2 h3 h4) ∧ Y.cell? ⟨fb, k * 4 + 2, none⟩ = some (.bool h5) ∧ Y.cell? ⟨fb, k * 4 + 3, none⟩ = some (.slice h6 h7 h8)) (by kernel_rfl) (HKx.out _ F0) (fun hHeld => ?_)
        refine wpAnyH_take (i := 0) (v := ?_) rfl (by kernel_rfl) (by kernel_rfl) (by kernel_rfl) (fun _ _ _ h => h) (Or.inl ⟨by rfl, ?_⟩) (by assumption) ?_
        rotate_left
        · intro w hSw
          (try dsimp only at hSw)
          go_simp
          (try with_reducible rfl)
        (try simp only [List.getElem_toArray, List.getElem_cons_zero, List.getElem_cons_succ, Act.put, List.setIfInBounds_toArray, List.set_cons_zero, List.set_cons_succ])
        refine wpAnyH_take (i := 1) (v := ?_) rfl (by kernel_rfl) (by kernel_rfl) (by kernel_rfl) (fun _ _ _ h => h) (Or.inl ⟨by rfl, ?_⟩) (by assumption) ?_
        rotate_left
        · intro w hSw
          (try dsimp only at hSw)
          go_simp
          (try with_reducible rfl)
        (try simp only [List.getElem_toArray, List.getElem_cons_zero, List.getElem_cons_succ, Act.put, List.setIfInBounds_toArray, List.set_cons_zero, List.set_cons_succ])
        refine wpAnyH_take (i := 2) (v := ?_) rfl (by kernel_rfl) (by kernel_rfl) (by kernel_rfl) (fun _ _ _ h => h) (Or.inl ⟨by rfl, ?_⟩) (by assumption) ?_
        rotate_left
        · intro w hSw
          (try dsimp only at hSw)
          go_simp
          (try with_reducible rfl)
        (try simp only [List.getElem_toArray, List.getElem_cons_zero, List.getElem_cons_succ, Act.put, List.setIfInBounds_toArray, List.set_cons_zero, List.set_cons_succ])
        refine wpAnyH_take (i := 3) (v := ?_) rfl (by kernel_rfl) (by kernel_rfl) (by kernel_rfl) (fun _ _ _ h => h) (Or.inl ⟨by rfl, ?_⟩) (by assumption) ?_
        rotate_left
        · intro w hSw
          (try dsimp only at hSw)
          go_simp
          (try with_reducible rfl)
        (try simp only [List.getElem_toArray, List.getElem_cons_zero, List.getElem_cons_succ, Act.put, List.setIfInBounds_toArray, List.set_cons_zero, List.set_cons_succ])
        refine wpAnyH_take (i := 4) (v := ?_) rfl (by kernel_rfl) (by kernel_rfl) (by kernel_rfl) (fun _ _ _ h => h) (Or.inl ⟨by rfl, ?_⟩) (by assumption) ?_
        rotate_left
        · intro w hSw
          (try dsimp only at hSw)
          go_simp
          (try with_reducible rfl)
        (try simp only [List.getElem_toArray, List.getElem_cons_zero, List.getElem_cons_succ, Act.put, List.setIfInBounds_toArray, List.set_cons_zero, List.set_cons_succ])
        refine wpAnyH_ready (rs := [5]) (by kernel_rfl) (by simp) ?_
        refine AllReadyH.cons (o := _) rfl (fun K hK => ?_) AllReadyH.nil
        go_simp
        (go_at_call 37; refine (HC1.out _ _ _ (HQF.out.below F0) (HQC.out.below F0)).mono ?_; rintro e Y1 ⟨rfl, bb⟩; have F1 : Below W.heap.size W Y1 := ⟨bb.os, bb.tape, bb.output, bb.size, bb.block⟩)
        dsimp only
        refine hK.out _ _ (HKx.out _ F1) (fun hHeld => ?_)
        clear hK K
        (try simp only [List.getElem_toArray, List.getElem_cons_zero, List.getElem_cons_succ, Act.put, List.setIfInBounds_toArray, List.set_cons_zero, List.set_cons_succ])
        refine wpAnyH_take (i := 6) (v := ?_) rfl (by kernel_rfl) (by kernel_rfl) (by kernel_rfl) (fun _ _ _ h => h) (Or.inl ⟨by rfl, ?_⟩) (by assumption) ?_
        rotate_left
        · intro w hSw
          (try dsimp only at hSw)
          go_simp
          (try with_reducible rfl)
        (try simp only [List.getElem_toArray, List.getElem_cons_zero, List.getElem_cons_succ, Act.put, List.setIfInBounds_toArray, List.set_cons_zero, List.set_cons_succ])
        refine wpAnyH_take (i := 7) (v := ?_) rfl (by kernel_rfl) (by kernel_rfl) (by kernel_rfl) (fun _ _ _ h => h) (Or.inl ⟨by rfl, ?_⟩) (by assumption) ?_
        rotate_left
        · intro w hSw
          (try dsimp only at hSw)
          go_simp
          (try with_reducible rfl)
        (try simp only [List.getElem_toArray, List.getElem_cons_zero, List.getElem_cons_succ, Act.put, List.setIfInBounds_toArray, List.set_cons_zero, List.set_cons_succ])
        refine wpAnyH_take (i := 8) (v := ?_) rfl (by kernel_rfl) (by kernel_rfl) (by kernel_rfl) (fun _ _ _ h => h) (Or.inl ⟨by rfl, ?_⟩) (by assumption) ?_
        rotate_left
        · intro w hSw
          (try dsimp only at hSw)
          go_simp
          (try with_reducible rfl)
        (try simp only [List.getElem_toArray, List.getElem_cons_zero, List.getElem_cons_succ, Act.put, List.setIfInBounds_toArray, List.set_cons_zero, List.set_cons_succ])
        refine wpAnyH_take (i := 9) (v := ?_) rfl (by kernel_rfl) (by kernel_rfl) (by kernel_rfl) (fun _ _ _ h => h) (Or.inl ⟨by rfl, ?_⟩) (by assumption) ?_
        rotate_left
        · intro w hSw
          (try dsimp only at hSw)
          go_simp
          (try with_reducible rfl)
        (try simp only [List.getElem_toArray, List.getElem_cons_zero, List.getElem_cons_succ, Act.put, List.setIfInBounds_toArray, List.set_cons_zero, List.set_cons_succ])
        refine wpAnyH_take (i := 10) (v := ?_) rfl (by kernel_rfl) (by kernel_rfl) (by kernel_rfl) (fun _ _ _ h => h) (Or.inl ⟨by rfl, ?_⟩) (by assumption) ?_
        rotate_left
        · intro w hSw
          (try dsimp only at hSw)
          go_simp
          (try with_reducible rfl)
        (try simp only [List.getElem_toArray, List.getElem_cons_zero, List.getElem_cons_succ, Act.put, List.setIfInBounds_toArray, List.set_cons_zero, List.set_cons_succ])
        refine wpAnyH_take (i := 11) (v := ?_) rfl (by kernel_rfl) (by kernel_rfl) (by kernel_rfl) (fun _ _ _ h => h) (Or.inl ⟨by rfl, ?_⟩) (by assumption) ?_
        rotate_left
        · intro w hSw
          (try dsimp only at hSw)
          go_simp
          (try with_reducible rfl)
        (try simp only [List.getElem_toArray, List.getElem_cons_zero, List.getElem_cons_succ, Act.put, List.setIfInBounds_toArray, List.set_cons_zero, List.set_cons_succ])
        refine wpAnyH_take (i := 12) (v := ?_) rfl (by kernel_rfl) (by kernel_rfl) (by kernel_rfl) (fun _ _ _ h => h) (Or.inl ⟨by rfl, ?_⟩) (by assumption) ?_
        rotate_left
        · intro w hSw
          (try dsimp only at hSw)
          go_simp
          (try with_reducible rfl)
        (try simp only [List.getElem_toArray, List.getElem_cons_zero, List.getElem_cons_succ, Act.put, List.setIfInBounds_toArray, List.set_cons_zero, List.set_cons_succ])
        refine wpAnyH_ready (rs := [13]) (by kernel_rfl) (by simp) ?_
        refine AllReadyH.cons (o := _) rfl (fun K hK => ?_) AllReadyH.nil
        go_simp
        (go_at_call 38; refine (HTN.out _ _ (HQC.out.below F1)).mono ?_; rintro e Y2 ⟨v2, rfl, n2, bb⟩; have F2 := chain2 F1 bb)
        dsimp only
        refine hK.out _ _ (HKx.out _ F2) (fun hHeld => ?_)
        clear hK K
        (try simp only [List.getElem_toArray, List.getElem_cons_zero, List.getElem_cons_succ, Act.put, List.setIfInBounds_toArray, List.set_cons_zero, List.set_cons_succ])
        refine wpAnyH_ready (rs := [14]) (by kernel_rfl) (by simp) ?_
        refine AllReadyH.cons (o := _) rfl (fun K hK => ?_) AllReadyH.nil
        go_simp
        (go_at_call 37; refine (HC2.out _ _ _ (HQF.out.below F2) n2).mono ?_; rintro e Y3 ⟨rfl, bb⟩; have F3 := chain2 F2 bb)
        dsimp only
        refine hK.out _ _ (HKx.out _ F3) (fun hHeld => ?_)
        clear hK K
        (try simp only [List.getElem_toArray, List.getElem_cons_zero, List.getElem_cons_succ, Act.put, List.setIfInBounds_toArray, List.set_cons_zero, List.set_cons_succ])
        refine wpAnyH_take (i := 15) (v := ?_) rfl (by kernel_rfl) (by kernel_rfl) (by kernel_rfl) (fun _ _ _ h => h) (Or.inl ⟨by rfl, ?_⟩) (by assumption) ?_
        rotate_left
        · intro w hSw
          (try dsimp only at hSw)
          go_simp
          (try with_reducible rfl)
        (try simp only [List.getElem_toArray, List.getElem_cons_zero, List.getElem_cons_succ, Act.put, List.setIfInBounds_toArray, List.set_cons_zero, List.set_cons_succ])
        refine wpAnyH_take (i := 16) (v := ?_) rfl (by kernel_rfl) (by kernel_rfl) (by kernel_rfl) (fun _ _ _ h => h) (Or.inl ⟨by rfl, ?_⟩) (by assumption) ?_
        rotate_left
        · intro w hSw
          (try dsimp only at hSw)
          go_simp
          (try with_reducible rfl)
        (try simp only [List.getElem_toArray, List.getElem_cons_zero, List.getElem_cons_succ, Act.put, List.setIfInBounds_toArray, List.set_cons_zero, List.set_cons_succ])
        refine wpAnyH_done (by kernel_rfl) ?_ _
        refine NoPanic.normal ?_
        have BN := BW2.trans (F3.mono BW2.size)
        clear HKx F0 F1 F2 F3
        go_wp2_with fail
        go_roundw
        case rel => exact ⟨k + 1, by omega, by go_num, HIN2, BN⟩
        case measure => simp [intOf]; omega
    · obtain rfl : k = F.length := by omega
      have HQ := hid (WiR.yes HFS.out HNUX.out (fun j hj => HIN.out j hj (by rw [HFS.out]; exact hj)))
      have BF := B1.trans (bW.mono B1.size)
      clear hlt HIN
      go_wp2_with fail
      go_ret
      exact ⟨⟨_, rfl, HQ.out⟩, BF⟩
end Go.Proofs.YtmoailbilnkfnaaGreatDoor
