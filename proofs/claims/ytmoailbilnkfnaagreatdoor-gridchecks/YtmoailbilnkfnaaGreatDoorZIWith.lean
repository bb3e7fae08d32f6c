/- grid: the program's Within. -/
import Derived.Test.YtmoailbilnkfnaaGreatDoorZIWith0
import Derived.Deep.RegionWith
import Derived.Deep.RegionHeld3
namespace Go.Proofs.YtmoailbilnkfnaaGreatDoor
open Go.RowKit
set_option linter.unusedVariables false
set_option maxRecDepth 100000
set_option linter.unusedSimpArgs false

set_option maxHeartbeats 12800000 in
theorem iwithin_any (w : World) (g : Gr) (la : Option Addr) (lc : Nat) (h : Lns w (.slice la g.lines.length lc) g.lines) (ok : gok g = true) (fv : Value) (F : List ByteArray) (hf : Strs w fv F) (m K : Nat) (hm100 : m ≤ 100000) (hmK : m / 9 + 8 ≤ K) (hK : K ≤ 12000) (hsz : ∀ s ∈ F, s.size ≤ m) (hmx : Mx w) (htab : Tab w) :
    Calls Tryz.prog 15 #[.agg #[.int .i64 g.zones, .int .i64 g.hours, .slice la g.lines.length lc, .int .i64 g.low, .int .i64 g.high], fv] w fun e w' => (∃ R, e = .returned (.bool R) ∧ WiR F g.lines R) ∧ Below w.heap.size w w' := by
  obtain ⟨-, -, -, hl3, hok⟩ := gok_iff.1 ok
  have HCP := hid (fun (l : Ln) (hl : l ∈ g.lines) => show 0 ≤ l.c ∧ l.c ≤ 1000 by have := lnok_iff.1 (hok l hl); omega)
  have HRD0 := hid (fun (Y : World) (b : Below w.heap.size w Y) => iread_any Y g la lc (h.below b) ok fv F (hf.below b) m K hm100 hmK hsz (hmx.below b) (htab.below b))
  obtain ⟨fa, fc, hfe, fl, fm⟩ := hf.slice
  have hK2 : 2 ≤ K := by omega
  obtain ⟨Z, H, lo, hi, S⟩ := g
  simp only at h hl3 HCP HRD0 ⊢
  have b0 := ibel w (Obj.cells #[.int .i64 Z, .int .i64 H, .slice la S.length lc, .int .i64 lo, .int .i64 hi] 24)
  have x0 := inew w (Obj.cells #[.int .i64 Z, .int .i64 H, .slice la S.length lc, .int .i64 lo, .int .i64 hi] 24)
  have z0 := ibx x0 0 (.int .i64 Z) rfl
  have z1 := ibx x0 1 (.int .i64 H) rfl
  have z2 := ibx x0 2 (.slice la S.length lc) rfl
  have z3 := ibx x0 3 (.int .i64 lo) rfl
  have z4 := ibx x0 4 (.int .i64 hi) rfl
  have HRD := hid (HRD0.out (w.alloc (Obj.cells #[.int .i64 Z, .int .i64 H, .slice la S.length lc, .int .i64 lo, .int .i64 hi] 24)) b0)
  have HL := hid (h.below b0)
  obtain ⟨a', c', e', hl, hm⟩ := h.slice
  simp only [Value.slice.injEq] at e'
  obtain ⟨rfl, -, rfl⟩ := e'
  unfold maxLen at hm
  have HB0 := hid b0
  subst hfe
  clear h x0 b0 ok hok hf hmx htab hsz hm100 hmK HRD0
  go_enter Tryz.func15, Tryz.ntmps15
  go_wp2_with fail
  generalize hW : w.alloc (Obj.cells #[.int .i64 Z, .int .i64 H, .slice la S.length lc, .int .i64 lo, .int .i64 hi] 24) = W at *
  clear hW
  refine HRD.out.mono ?_
  rintro e X1 ⟨hr, bX1⟩
  have B1 := HB0.out.trans (bX1.mono HB0.out.size)
  have z2 := ikc bX1 z2
  have HL := hid (HL.out.below bX1)
  clear z0 z1 z3 z4 HRD bX1 HB0
  rcases hr with ⟨h1, rfl⟩ | ⟨h1, h2, rfl⟩ | ⟨h1, X, fb, C, hnu, rfl, hqb, hbb⟩
  · have HQ := hid (WiR.len h1)
    clear h1
    go_wp2_with fail
    go_ret
    exact ⟨⟨_, rfl, HQ.out⟩, B1⟩
  · have HQ := hid (WiR.num (S := S) h2)
    clear h1 h2
    go_wp2_with fail
    go_ret
    exact ⟨⟨_, rfl, HQ.out⟩, B1⟩
  have HXL := hid (hnu.len.trans h1)
  have HFS := hid h1
  have HNU := hid hnu
  have HQB := hid hqb
  clear h1 hnu hqb hbb
  go_wp2_with fail
  go_loopw [20] (fun i wr => ∃ (k : Nat), k ≤ S.length ∧ i = .int .i64 (k : Int) ∧ Hid (∀ j (h : j < S.length), j < k → ((-S[j].c : Int) : Rat) ≤ rat' X j ∧ rat' X j ≤ ((S[j].c : Int) : Rat)) ∧ Below X1.heap.size X1 wr) (fun i _ => S.length - (intOf i).toNat)
  case atStart => exact ⟨0, Nat.zero_le _, rfl, hid (fun j _ h => absurd h (Nat.not_lt_zero _)), Below.refl _ _⟩
  case round =>
    obtain ⟨k, hk, rfl, HIN, bW⟩ := hrel
    by_cases hlt : k < S.length
    · obtain ⟨b, off, c', e, _, _, q0, q1, q2⟩ := (HL.out.below bW).at k hlt
      simp only [Value.slice.injEq] at e
      obtain ⟨rfl, -, rfl⟩ := e
      have hli : (0 : Int) ≤ (k : Int) ∧ (k : Int) < (S.length : Int) := by omega
      have hfit := HCP.out _ (List.getElem_mem hlt)
      have HNO := hid (fun hh => WiR.no HNU.out k hlt hh)
      have HYE := hid (fun (hh : ((-S[k].c : Int) : Rat) ≤ rat' X k ∧ rat' X k ≤ ((S[k].c : Int) : Rat)) => show ∀ j (h : j < S.length), j < k + 1 → ((-S[j].c : Int) : Rat) ≤ rat' X j ∧ rat' X j ≤ ((S[j].c : Int) : Rat) from fun j hj hjk => by
        by_cases hjj : j < k
        · exact HIN.out j hj hjj
        · obtain rfl : j = k := by omega
          exact hh)
      have HXK := hid (show X[k]'(by rw [HXL.out]; exact hlt) = rat' X k from rat_get _)
      generalize S[k] = l at *
      obtain ⟨lf, lt, lcap⟩ := l
      simp only at hfit q0 q1 q2 HNO HYE
      have bA := ibel wr (Obj.cells #[.int .i64 lf, .int .i64 lt, .int .i64 lcap] 50)
      have xA := inew wr (Obj.cells #[.int .i64 lf, .int .i64 lt, .int .i64 lcap] 50)
      have u2 := ibx xA 2 (.int .i64 lcap) rfl
      have BW2 := bW.trans (bA.mono bW.size)
      obtain ⟨_, _, _, _, d0, d1, d2, d3, hqf⟩ := (HQB.out.below BW2).at k (by rw [HXL.out]; exact hlt)
      obtain ⟨h1, h2, h3, h4, h5, h6, h7, h8, e⟩ := hqf.form
      simp only [Value.agg.injEq, Array.mk.injEq, List.cons.injEq, and_true] at e
      obtain ⟨rfl, rfl, rfl, rfl⟩ := e
      rw [HXK.out] at hqf
      have HQF := hid hqf
      generalize rat' X k = xk at *
      have hng : IntKind.i64.wrap (-lcap) = -lcap := by simp [IntKind.wrap, IntKind.bits, IntKind.signed]; omega
      have hng2 : wrap64 (-lcap) = -lcap := by simp only [wrap64]; omega
      have HO1 := hid (fun (Y : World) (bY : Below (wr.alloc (Obj.cells #[.int .i64 lf, .int .i64 lt, .int .i64 lcap] 50)).heap.size (wr.alloc (Obj.cells #[.int .i64 lf, .int .i64 lt, .int .i64 lcap] 50)) Y) => (q_of Y (-lcap) (by omega) (by omega)).mono (fun e w' h => show ∃ v, e = .returned v ∧ QIs w' v ((-lcap : Int) : Rat) K ∧ Below Y.heap.size Y w' from by obtain ⟨v, k1, k2, k3⟩ := h; exact ⟨v, k1, k2.mono hK2, k3⟩))
      have HO2 := hid (fun (Y : World) (bY : Below (wr.alloc (Obj.cells #[.int .i64 lf, .int .i64 lt, .int .i64 lcap] 50)).heap.size (wr.alloc (Obj.cells #[.int .i64 lf, .int .i64 lt, .int .i64 lcap] 50)) Y) => (q_of Y lcap (by omega) (by omega)).mono (fun e w' h => show ∃ v, e = .returned v ∧ QIs w' v ((lcap : Int) : Rat) K ∧ Below Y.heap.size Y w' from by obtain ⟨v, k1, k2, k3⟩ := h; exact ⟨v, k1, k2.mono hK2, k3⟩))
      obtain ⟨r1, HR1⟩ : ∃ r, Hid (cmpR xk ((-lcap : Int) : Rat) = r) := ⟨_, hid rfl⟩
      obtain ⟨r2, HR2⟩ : ∃ r, Hid (cmpR xk ((lcap : Int) : Rat) = r) := ⟨_, hid rfl⟩
      have HC1 := hid (fun (Y : World) (u v : Value) (h1 : QIs Y u xk K) (h2 : QIs Y v ((-lcap : Int) : Rat) K) => show Calls Tryz.prog 35 #[u, v] Y (fun e w' => e = .returned (.int .i64 r1) ∧ Below Y.heap.size Y w') by rw [← HR1.out]; exact q_cmp Y u v _ _ K (by omega) h1 h2)
      have HC2 := hid (fun (Y : World) (u v : Value) (h1 : QIs Y u xk K) (h2 : QIs Y v ((lcap : Int) : Rat) K) => show Calls Tryz.prog 35 #[u, v] Y (fun e w' => e = .returned (.int .i64 r2) ∧ Below Y.heap.size Y w') by rw [← HR2.out]; exact q_cmp Y u v _ _ K (by omega) h1 h2)
      have hl1 : decide (r1 < 0) = decide (xk < ((-lcap : Int) : Rat)) := by rw [← HR1.out]; exact cmp_lt0 _ _
      have hl2 : decide (0 < r2) = decide (((lcap : Int) : Rat) < xk) := by rw [← HR2.out]; exact cmp_gt0 _ _
      have HL1 := hid hl1
      have HL2 := hid hl2
      clear hqf bA xA hl1 hl2 HR1 HR2 HXK HIN
      by_cases hx1 : xk < ((-lcap : Int) : Rat)
      · have hr1 : decide (r1 < 0) = true := by rw [HL1.out]; exact decide_eq_true hx1
        have HQ := hid (HNO.out (fun q => Rat.lt_irrefl (Std.lt_of_lt_of_le hx1 q.1)))
        clear HL1 HL2 HNO HYE hx1
        go_wp2_with fail
        generalize wr.heap.size = bl at *
        generalize wr.alloc (Obj.cells #[.int .i64 lf, .int .i64 lt, .int .i64 lcap] 50) = W at *
        have F0 : Below W.heap.size W W.drew := (Below.refl _ _).drew
        have HKx := hid (fun (Y : World) (kz : Below W.heap.size W Y) => show (Y.cell? ⟨bl, 2, none⟩ = some (.int .i64 lcap) ∧ Y.cell? ⟨fb, k * 4, none⟩ = some (.slice h1 h2 h3) ∧ Y.cell? ⟨fb, k * 4 + 1, none⟩ = some (.bool h4) ∧ Y.cell? ⟨fb, k * 4 + 2, none⟩ = some (.slice h5 h6 h7) ∧ Y.cell? ⟨fb, k * 4 + 3, none⟩ = some (.bool h8)) from ⟨ikc kz u2, ikc kz d0, ikc kz d1, ikc kz d2, ikc kz d3⟩)
        refine wp_region_noPanic ?_
        refine wp_region_held_drew (S := fun Y => Y.cell? ⟨bl, 2, none⟩ = some (.int .i64 lcap) ∧ Y.cell? ⟨fb, k * 4, none⟩ = some (.slice h1 h2 h3) ∧ Y.cell? ⟨fb, k * 4 + 1, none⟩ = some (.bool h4) ∧ Y.cell? ⟨fb, k * 4 + 2, none⟩ = some (.slice h5 h6 h7) ∧ Y.cell? ⟨fb, k * 4 + 3, none⟩ = some (.bool h8)) (by kernel_rfl) (HKx.out _ F0) (fun hHeld => ?_)
        refine wpAnyH_take (i := 0) (v := ?_) rfl (by kernel_rfl) (by kernel_rfl) (by kernel_rfl) (fun _ _ _ h => h) (Or.inl ⟨by rfl, ?_⟩) (by assumption) ?_
        rotate_left
        · intro w hSw
          (try dsimp only at hSw)
          go_simp
          (try with_reducible rfl)
        (try simp only [List.getElem_toArray, List.getElem_cons_zero, List.getElem_cons_succ, Act.put, List.setIfInBounds_toArray, List.set_cons_zero, List.set_cons_succ])
        refine wpAnyH_take (i := 1) (v := ?_) rfl (by kernel_rfl) (by kernel_rfl) (by kernel_rfl) (fun _ _ _ h => h) (Or.inl ⟨by rfl, ?_⟩) (by assumption) ?_
        rotate_left
        · intro w hSw
          (try dsimp only at hSw)
          go_simp
          (try with_reducible rfl)
        (try simp only [List.getElem_toArray, List.getElem_cons_zero, List.getElem_cons_succ, Act.put, List.setIfInBounds_toArray, List.set_cons_zero, List.set_cons_succ])
        refine wpAnyH_take (i := 2) (v := ?_) rfl (by kernel_rfl) (by kernel_rfl) (by kernel_rfl) (fun _ _ _ h => h) (Or.inl ⟨by rfl, ?_⟩) (by assumption) ?_
        rotate_left
        · intro w hSw
          (try dsimp only at hSw)
          go_simp
          (try with_reducible rfl)
        (try simp only [List.getElem_toArray, List.getElem_cons_zero, List.getElem_cons_succ, Act.put, List.setIfInBounds_toArray, List.set_cons_zero, List.set_cons_succ])
        refine wpAnyH_take (i := 3) (v := ?_) rfl (by kernel_rfl) (by kernel_rfl) (by kernel_rfl) (fun _ _ _ h => h) (Or.inl ⟨by rfl, ?_⟩) (by assumption) ?_
        rotate_left
        · intro w hSw
          (try dsimp only at hSw)
          go_simp
          (try with_reducible rfl)
        (try simp only [List.getElem_toArray, List.getElem_cons_zero, List.getElem_cons_succ, Act.put, List.setIfInBounds_toArray, List.set_cons_zero, List.set_cons_succ])
        refine wpAnyH_take (i := 4) (v := ?_) rfl (by kernel_rfl) (by kernel_rfl) (by kernel_rfl) (fun _ _ _ h => h) (Or.inl ⟨by rfl, ?_⟩) (by assumption) ?_
        rotate_left
        · intro w hSw
          (try dsimp only at hSw)
          go_simp
          (try with_reducible rfl)
        (try simp only [List.getElem_toArray, List.getElem_cons_zero, List.getElem_cons_succ, Act.put, List.setIfInBounds_toArray, List.set_cons_zero, List.set_cons_succ])
        refine wpAnyH_take (i := 5) (v := ?_) rfl (by kernel_rfl) (by kernel_rfl) (by kernel_rfl) (fun _ _ _ h => h) (Or.inl ⟨by rfl, ?_⟩) (by assumption) ?_
        rotate_left
        · intro w hSw
          (try dsimp only at hSw)
          go_simp
          (try with_reducible rfl)
        (try simp only [List.getElem_toArray, List.getElem_cons_zero, List.getElem_cons_succ, Act.put, List.setIfInBounds_toArray, List.set_cons_zero, List.set_cons_succ])
        refine wpAnyH_take (i := 6) (v := ?_) rfl (by kernel_rfl) (by kernel_rfl) (by kernel_rfl) (fun _ _ _ h => h) (Or.inl ⟨by rfl, ?_⟩) (by assumption) ?_
        rotate_left
        · intro w hSw
          (try dsimp only at hSw)
          go_simp
          (try with_reducible rfl)
        (try simp only [List.getElem_toArray, List.getElem_cons_zero, List.getElem_cons_succ, Act.put, List.setIfInBounds_toArray, List.set_cons_zero, List.set_cons_succ])
        refine wpAnyH_ready (rs := [7]) (by kernel_rfl) (by simp) ?_
        refine AllReadyH.cons (o := _) rfl (fun K hK => ?_) AllReadyH.nil
        go_simp
        (go_at_call 36; refine (HO1.out _ (by first | exact Below.refl _ _ | exact (Below.refl _ _).drew | exact below_dn (Below.refl _ _) _)).mono ?_; rintro e Y1 ⟨v1, rfl, n1, bb⟩; have F1 : Below W.heap.size W Y1 := ⟨bb.os, bb.tape, bb.output, bb.size, bb.block⟩; obtain ⟨j0, j1, j2, j3, j4⟩ := HKx.out _ F1)
        dsimp only
        refine hK.out _ _ (HKx.out _ F1) (fun hHeld => ?_)
        clear hK K
        (try simp only [List.getElem_toArray, List.getElem_cons_zero, List.getElem_cons_succ, Act.put, List.setIfInBounds_toArray, List.set_cons_zero, List.set_cons_succ])
        refine wpAnyH_ready (rs := [8]) (by kernel_rfl) (by simp) ?_
        refine AllReadyH.cons (o := _) rfl (fun K hK => ?_) AllReadyH.nil
        go_simp
        (have gk := F1; go_at_call 35; refine (HC1.out _ _ _ (HQF.out.below ((by first | exact F1 | exact F1.drew | exact below_dn F1 _) : Below W.heap.size W _)) (by first | exact n1 | exact n1.below (Below.refl _ _).drew | exact n1.below (below_dn (Below.refl _ _) _))).mono ?_; rintro e Y2 ⟨rfl, bb⟩; have F2 : Below W.heap.size W Y2 := (by first | exact chain2 F1 bb | exact chain2 F1 ⟨bb.os, bb.tape, bb.output, bb.size, bb.block⟩); obtain ⟨i0, i1, i2, i3, i4⟩ := HKx.out _ F2)
        dsimp only
        refine hK.out _ _ (HKx.out _ F2) (fun hHeld => ?_)
        clear hK K
        (try simp only [List.getElem_toArray, List.getElem_cons_zero, List.getElem_cons_succ, Act.put, List.setIfInBounds_toArray, List.set_cons_zero, List.set_cons_succ])
        refine wpAnyH_take (i := 9) (v := ?_) rfl (by kernel_rfl) (by kernel_rfl) (by kernel_rfl) (fun _ _ _ h => h) (Or.inl ⟨by rfl, ?_⟩) (by assumption) ?_
        rotate_left
        · intro w hSw
          (try dsimp only at hSw)
          go_simp
          (try with_reducible rfl)
        (try simp only [List.getElem_toArray, List.getElem_cons_zero, List.getElem_cons_succ, Act.put, List.setIfInBounds_toArray, List.set_cons_zero, List.set_cons_succ])
        refine wpAnyH_take (i := 10) (v := ?_) rfl (by kernel_rfl) (by kernel_rfl) (by kernel_rfl) (fun _ _ _ h => h) (Or.inl ⟨by rfl, ?_⟩) (by assumption) ?_
        rotate_left
        · intro w hSw
          (try dsimp only at hSw)
          go_simp
          (try with_reducible rfl)
        (try simp only [List.getElem_toArray, List.getElem_cons_zero, List.getElem_cons_succ, Act.put, List.setIfInBounds_toArray, List.set_cons_zero, List.set_cons_succ])
        refine wpAnyH_take (i := 11) (v := undef) rfl (by kernel_rfl) (by kernel_rfl) (by kernel_rfl) (fun _ _ _ h => h) (Or.inr ⟨by rfl, rfl⟩) (by assumption) ?_
        (try simp only [List.getElem_toArray, List.getElem_cons_zero, List.getElem_cons_succ, Act.put, List.setIfInBounds_toArray, List.set_cons_zero, List.set_cons_succ])
        refine wpAnyH_take (i := 12) (v := undef) rfl (by kernel_rfl) (by kernel_rfl) (by kernel_rfl) (fun _ _ _ h => h) (Or.inr ⟨by rfl, rfl⟩) (by assumption) ?_
        (try simp only [List.getElem_toArray, List.getElem_cons_zero, List.getElem_cons_succ, Act.put, List.setIfInBounds_toArray, List.set_cons_zero, List.set_cons_succ])
        refine wpAnyH_take (i := 13) (v := undef) rfl (by kernel_rfl) (by kernel_rfl) (by kernel_rfl) (fun _ _ _ h => h) (Or.inr ⟨by rfl, rfl⟩) (by assumption) ?_
        (try simp only [List.getElem_toArray, List.getElem_cons_zero, List.getElem_cons_succ, Act.put, List.setIfInBounds_toArray, List.set_cons_zero, List.set_cons_succ])
        refine wpAnyH_take (i := 14) (v := undef) rfl (by kernel_rfl) (by kernel_rfl) (by kernel_rfl) (fun _ _ _ h => h) (Or.inr ⟨by rfl, rfl⟩) (by assumption) ?_
        (try simp only [List.getElem_toArray, List.getElem_cons_zero, List.getElem_cons_succ, Act.put, List.setIfInBounds_toArray, List.set_cons_zero, List.set_cons_succ])
        refine wpAnyH_take (i := 15) (v := undef) rfl (by kernel_rfl) (by kernel_rfl) (by kernel_rfl) (fun _ _ _ h => h) (Or.inr ⟨by rfl, rfl⟩) (by assumption) ?_
        (try simp only [List.getElem_toArray, List.getElem_cons_zero, List.getElem_cons_succ, Act.put, List.setIfInBounds_toArray, List.set_cons_zero, List.set_cons_succ])
        refine wpAnyH_take (i := 16) (v := undef) rfl (by kernel_rfl) (by kernel_rfl) (by kernel_rfl) (fun _ _ _ h => h) (Or.inr ⟨by rfl, rfl⟩) (by assumption) ?_
        (try simp only [List.getElem_toArray, List.getElem_cons_zero, List.getElem_cons_succ, Act.put, List.setIfInBounds_toArray, List.set_cons_zero, List.set_cons_succ])
        refine wpAnyH_take (i := 17) (v := undef) rfl (by kernel_rfl) (by kernel_rfl) (by kernel_rfl) (fun _ _ _ h => h) (Or.inr ⟨by rfl, rfl⟩) (by assumption) ?_
        (try simp only [List.getElem_toArray, List.getElem_cons_zero, List.getElem_cons_succ, Act.put, List.setIfInBounds_toArray, List.set_cons_zero, List.set_cons_succ])
        refine wpAnyH_take (i := 18) (v := undef) rfl (by kernel_rfl) (by kernel_rfl) (by kernel_rfl) (fun _ _ _ h => h) (Or.inr ⟨by rfl, rfl⟩) (by assumption) ?_
        (try simp only [List.getElem_toArray, List.getElem_cons_zero, List.getElem_cons_succ, Act.put, List.setIfInBounds_toArray, List.set_cons_zero, List.set_cons_succ])
        refine wpAnyH_take (i := 19) (v := undef) rfl (by kernel_rfl) (by kernel_rfl) (by kernel_rfl) (fun _ _ _ h => h) (Or.inr ⟨by rfl, rfl⟩) (by assumption) ?_
        (try simp only [List.getElem_toArray, List.getElem_cons_zero, List.getElem_cons_succ, Act.put, List.setIfInBounds_toArray, List.set_cons_zero, List.set_cons_succ])
        refine wpAnyH_take (i := 20) (v := ?_) rfl (by kernel_rfl) (by kernel_rfl) (by kernel_rfl) (fun _ _ _ h => h) (Or.inl ⟨by rfl, ?_⟩) (by assumption) ?_
        rotate_left
        · intro w hSw
          (try dsimp only at hSw)
          go_simp
          (try with_reducible rfl)
        (try simp only [List.getElem_toArray, List.getElem_cons_zero, List.getElem_cons_succ, Act.put, List.setIfInBounds_toArray, List.set_cons_zero, List.set_cons_succ])
        refine wpAnyH_done (by kernel_rfl) ?_ _
        refine NoPanic.normal ?_
        all_goals
          have BF := B1.trans ((BW2.trans (F2.mono BW2.size)).mono B1.size)
          go_wp2_with fail
          go_ret
          exact ⟨⟨_, rfl, HQ.out⟩, BF⟩
      have hr1 : decide (r1 < 0) = false := by rw [HL1.out]; exact decide_eq_false hx1
      by_cases hx2 : ((lcap : Int) : Rat) < xk
      · have hr2 : decide (0 < r2) = true := by rw [HL2.out]; exact decide_eq_true hx2
        have HQ := hid (HNO.out (fun q => Rat.lt_irrefl (Std.lt_of_lt_of_le hx2 q.2)))
        clear HL1 HL2 HNO HYE hx1 hx2
        go_wp2_with fail
        generalize wr.heap.size = bl at *
        generalize wr.alloc (Obj.cells #[.int .i64 lf, .int .i64 lt, .int .i64 lcap] 50) = W at *
        have F0 : Below W.heap.size W W.drew := (Below.refl _ _).drew
        have HKx := hid (fun (Y : World) (kz : Below W.heap.size W Y) => show (Y.cell? ⟨bl, 2, none⟩ = some (.int .i64 lcap) ∧ Y.cell? ⟨fb, k * 4, none⟩ = some (.slice h1 h2 h3) ∧ Y.cell? ⟨fb, k * 4 + 1, none⟩ = some (.bool h4) ∧ Y.cell? ⟨fb, k * 4 + 2, none⟩ = some (.slice h5 h6 h7) ∧ Y.cell? ⟨fb, k * 4 + 3, none⟩ = some (.bool h8)) from ⟨ikc kz u2, ikc kz d0, ikc kz d1, ikc kz d2, ikc kz d3⟩)
        go_region_held3 (fun Y => Y.cell? ⟨bl, 2, none⟩ = some (.int .i64 lcap) ∧ Y.cell? ⟨fb, k * 4, none⟩ = some (.slice h1 h2 h3) ∧ Y.cell? ⟨fb, k * 4 + 1, none⟩ = some (.bool h4) ∧ Y.cell? ⟨fb, k * 4 + 2, none⟩ = some (.slice h5 h6 h7) ∧ Y.cell? ⟨fb, k * 4 + 3, none⟩ = some (.bool h8)) (first | exact HKx.out _ F0 | exact HKx.out _ F4 | exact HKx.out _ F3 | exact HKx.out _ F2 | exact HKx.out _ F1) (first
            | (have gk := F3; go_at_call 35; refine (HC2.out _ _ _ (HQF.out.below F3) n3).mono ?_; rintro e Y4 ⟨rfl, bb⟩; have F4 := chain2 F3 bb)
            | (have gk := F2; go_at_call 36; refine (HO2.out _ (by first | exact F2 | exact F2.drew)).mono ?_; rintro e Y3 ⟨v3, rfl, n3, bb⟩; have F3 := chain2 F2 bb)
            | (have gk := F1; go_at_call 35; refine (HC1.out _ _ _ (HQF.out.below ((by first | exact F1 | exact F1.drew | exact below_dn F1 _) : Below W.heap.size W _)) (by first | exact n1 | exact n1.below (Below.refl _ _).drew | exact n1.below (below_dn (Below.refl _ _) _))).mono ?_; rintro e Y2 ⟨rfl, bb⟩; have F2 : Below W.heap.size W Y2 := (by first | exact chain2 F1 bb | exact chain2 F1 ⟨bb.os, bb.tape, bb.output, bb.size, bb.block⟩); obtain ⟨i0, i1, i2, i3, i4⟩ := HKx.out _ F2)
            | (go_at_call 36; refine (HO1.out _ (by first | exact Below.refl _ _ | exact (Below.refl _ _).drew | exact below_dn (Below.refl _ _) _)).mono ?_; rintro e Y1 ⟨v1, rfl, n1, bb⟩; have F1 : Below W.heap.size W Y1 := ⟨bb.os, bb.tape, bb.output, bb.size, bb.block⟩; obtain ⟨j0, j1, j2, j3, j4⟩ := HKx.out _ F1))
        all_goals
          have BF := B1.trans ((BW2.trans (F4.mono BW2.size)).mono B1.size)
          go_wp2_with fail
          go_ret
          exact ⟨⟨_, rfl, HQ.out⟩, BF⟩
      · have hr2 : decide (0 < r2) = false := by rw [HL2.out]; exact decide_eq_false hx2
        have HIN2 := hid (HYE.out ⟨Rat.not_lt.1 hx1, Rat.not_lt.1 hx2⟩)
        clear HL1 HL2 HNO HYE hx1 hx2
        go_wp2_with fail
        generalize wr.heap.size = bl at *
        generalize wr.alloc (Obj.cells #[.int .i64 lf, .int .i64 lt, .int .i64 lcap] 50) = W at *
        have F0 : Below W.heap.size W W.drew := (Below.refl _ _).drew
        have HKx := hid (fun (Y : World) (kz : Below W.heap.size W Y) => show (Y.cell? ⟨bl, 2, none⟩ = some (.int .i64 lcap) ∧ Y.cell? ⟨fb, k * 4, none⟩ = some (.slice h1 h2 h3) ∧ Y.cell? ⟨fb, k * 4 + 1, none⟩ = some (.bool h4) ∧ Y.cell? ⟨fb, k * 4 + 2, none⟩ = some (.slice h5 h6 h7) ∧ Y.cell? ⟨fb, k * 4 + 3, none⟩ = some (.bool h8)) from ⟨ikc kz u2, ikc kz d0, ikc kz d1, ikc kz d2, ikc kz d3⟩)
        go_region_held3 (fun Y => Y.cell? ⟨bl, 2, none⟩ = some (.int .i64 lcap) ∧ Y.cell? ⟨fb, k * 4, none⟩ = some (.slice h1 h2 h3) ∧ Y.cell? ⟨fb, k * 4 + 1, none⟩ = some (.bool h4) ∧ Y.cell? ⟨fb, k * 4 + 2, none⟩ = some (.slice h5 h6 h7) ∧ Y.cell? ⟨fb, k * 4 + 3, none⟩ = some (.bool h8)) (first | exact HKx.out _ F0 | exact HKx.out _ F4 | exact HKx.out _ F3 | exact HKx.out _ F2 | exact HKx.out _ F1) (first
            | (have gk := F3; go_at_call 35; refine (HC2.out _ _ _ (HQF.out.below F3) n3).mono ?_; rintro e Y4 ⟨rfl, bb⟩; have F4 := chain2 F3 bb)
            | (have gk := F2; go_at_call 36; refine (HO2.out _ (by first | exact F2 | exact F2.drew)).mono ?_; rintro e Y3 ⟨v3, rfl, n3, bb⟩; have F3 := chain2 F2 bb)
            | (have gk := F1; go_at_call 35; refine (HC1.out _ _ _ (HQF.out.below ((by first | exact F1 | exact F1.drew | exact below_dn F1 _) : Below W.heap.size W _)) (by first | exact n1 | exact n1.below (Below.refl _ _).drew | exact n1.below (below_dn (Below.refl _ _) _))).mono ?_; rintro e Y2 ⟨rfl, bb⟩; have F2 : Below W.heap.size W Y2 := (by first | exact chain2 F1 bb | exact chain2 F1 ⟨bb.os, bb.tape, bb.output, bb.size, bb.block⟩); obtain ⟨i0, i1, i2, i3, i4⟩ := HKx.out _ F2)
            | (go_at_call 36; refine (HO1.out _ (by first | exact Below.refl _ _ | exact (Below.refl _ _).drew | exact below_dn (Below.refl _ _) _)).mono ?_; rintro e Y1 ⟨v1, rfl, n1, bb⟩; have F1 : Below W.heap.size W Y1 := ⟨bb.os, bb.tape, bb.output, bb.size, bb.block⟩; obtain ⟨j0, j1, j2, j3, j4⟩ := HKx.out _ F1))
        all_goals
          have BN := BW2.trans (F4.mono BW2.size)
          clear HKx F0 F1 F2 F3 F4 u2 d0 d1 d2 d3
          go_wp2_with fail
          go_roundw
          case rel => exact ⟨k + 1, by omega, by go_num, HIN2, BN⟩
          case measure => simp [intOf]; omega
    · obtain rfl : k = S.length := by omega
      have HQ := hid (WiR.yes HFS.out HNU.out (fun j hj => HIN.out j hj hj))
      have BF := B1.trans (bW.mono B1.size)
      clear hlt HIN
      go_wp2_with fail
      go_ret
      exact ⟨⟨_, rfl, HQ.out⟩, BF⟩
end Go.Proofs.YtmoailbilnkfnaaGreatDoor
