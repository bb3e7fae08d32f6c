/- grid: the program's Export. -/
import Derived.Test.YtmoailbilnkfnaaGreatDoorPk43
import Derived.Deep.RegionWith
import Derived.Deep.DeepCutAuto
namespace Go.Proofs.YtmoailbilnkfnaaGreatDoor
open Go.RowKit
set_option linter.unusedVariables false
set_option maxRecDepth 100000
set_option linter.unusedSimpArgs false

theorem cell_set4_ne {X : World} {b r j : Nat} {u : Value} (hne : b ≠ r) (h : X.cell? ⟨b, j, none⟩ = some u) (o : Nat) (x0 x1 x2 x3 : Value) : ((((X.setCell ⟨r, o, none⟩ x0).setCell ⟨r, o + 1, none⟩ x1).setCell ⟨r, o + 2, none⟩ x2).setCell ⟨r, o + 3, none⟩ x3).cell? ⟨b, j, none⟩ = some u := by
  rw [cell_set_ne _ rfl rfl hne, cell_set_ne _ rfl rfl hne, cell_set_ne _ rfl rfl hne, cell_set_ne _ rfl rfl hne]
  exact h
set_option maxHeartbeats 12800000 in
theorem iexport_any (w : World) (g : Gr) (la : Option Addr) (lc : Nat) (h : Lns w (.slice la g.lines.length lc) g.lines) (ok : gok g = true) (n : Nat) (hn : g.zones = n) (fv : Value) (F : List ByteArray) (hf : Strs w fv F) (m K : Nat) (hm100 : m ≤ 100000) (hmK : m / 9 + 8 ≤ K) (hK : K ≤ 4000) (hsz : ∀ s ∈ F, s.size ≤ m) (hmx : Mx w) (htab : Tab w) :
    Calls Tryz.prog 12 #[.agg #[.int .i64 g.zones, .int .i64 g.hours, .slice la g.lines.length lc, .int .i64 g.low, .int .i64 g.high], fv] w fun e w' => IExp F g.lines n (1280 * K + 15135) e w' ∧ Below w.heap.size w w' := by
  obtain ⟨hz, -, -, hl3, -⟩ := gok_iff.1 ok
  have HFIT := hid (gok_fit ok)
  rw [show g.zones.toNat = n by omega] at HFIT
  have HRD0 := hid (fun (Y : World) (b : Below w.heap.size w Y) => iread_any Y g la lc (h.below b) ok fv F (hf.below b) m K hm100 hmK hsz (hmx.below b) (htab.below b))
  obtain ⟨fa, fc, hfe, fl, fm⟩ := hf.slice
  obtain ⟨Z, H, lo, hi, S⟩ := g
  simp only at h hn hz hl3 HFIT HRD0 ⊢
  subst hn
  have b0 := ibel w (Obj.cells #[.int .i64 (n : Int), .int .i64 H, .slice la S.length lc, .int .i64 lo, .int .i64 hi] 24)
  have x0 := inew w (Obj.cells #[.int .i64 (n : Int), .int .i64 H, .slice la S.length lc, .int .i64 lo, .int .i64 hi] 24)
  have z0 := ibx x0 0 (.int .i64 (n : Int)) rfl
  have z1 := ibx x0 1 (.int .i64 H) rfl
  have z2 := ibx x0 2 (.slice la S.length lc) rfl
  have z3 := ibx x0 3 (.int .i64 lo) rfl
  have z4 := ibx x0 4 (.int .i64 hi) rfl
  have HRD := hid (HRD0.out (w.alloc (Obj.cells #[.int .i64 (n : Int), .int .i64 H, .slice la S.length lc, .int .i64 lo, .int .i64 hi] 24)) b0)
  have HL := hid (h.below b0)
  have HTAB := hid (htab.below b0)
  obtain ⟨a', c', e', hl, hm⟩ := h.slice
  simp only [Value.slice.injEq] at e'
  obtain ⟨rfl, -, rfl⟩ := e'
  unfold maxLen at hm
  have HB0 := hid b0
  have hmakeQ := rmake n (by omega)
  have hmakeS := smake n (by omega)
  subst hfe
  clear h x0 b0 ok hf hmx htab hsz hm100 hmK HRD0
  go_enter Tryz.func12, Tryz.ntmps12
  go_wp2_with fail
  generalize hW : w.alloc (Obj.cells #[.int .i64 (n : Int), .int .i64 H, .slice la S.length lc, .int .i64 lo, .int .i64 hi] 24) = W at *
  clear hW
  refine HRD.out.mono ?_
  rintro e X1 ⟨hr, bX1⟩
  have B1 := HB0.out.trans (bX1.mono HB0.out.size)
  have HKEEP := hid (And.intro (ikc bX1 z0) (ikc bX1 z2))
  have HL := hid (HL.out.below bX1)
  have HTAB := hid (HTAB.out.below bX1)
  clear z0 z1 z2 z3 z4 HRD bX1 HB0
  obtain ⟨z0, z2⟩ := HKEEP.out
  rcases hr with ⟨h1, rfl⟩ | ⟨h1, h2, rfl⟩ | ⟨h1, X, fb, C, hnu, rfl, hqb, hbb⟩
  · have HQ := hid (show IExp F S n (1280 * K + 15135) (.returned (.tuple #[.slice none 0 0, .int .i64 120])) X1 from Or.inl ⟨h1, rfl⟩)
    clear h1
    go_wp2_with fail
    go_ret2
    exact ⟨HQ.out, B1⟩
  · have HQ := hid (show IExp F S n (1280 * K + 15135) (.returned (.tuple #[.slice none 0 0, .int .i64 10])) X1 from Or.inr (Or.inl ⟨h1, h2, rfl⟩))
    clear h1 h2
    go_wp2_with fail
    go_ret2
    exact ⟨HQ.out, B1⟩
  have HXL := hid (hnu.len.trans h1)
  have HQE := hid (fun (tv : Value) (Z : List ByteArray) (w' : World) (k1 : Strs w' tv Z) (k2 : TxL Z (exps S X n)) (k4 : ∀ s ∈ Z, s.size ≤ 1280 * K + 15135) => show IExp F S n (1280 * K + 15135) (.returned (.tuple #[tv, .int .i64 0])) w' from Or.inr (Or.inr ⟨h1, X, tv, Z, hnu, rfl, k1, k2, k4⟩))
  have HQB := hid hqb
  have hfb : fb < X1.heap.size := lt_of_block hqb.blk
  clear h1 hnu hqb hbb
  have HM0 := hid (Qb.made X1 n K)
  have BM0 := ibel X1 (Obj.cells (List.replicate n [Value.slice none 0 0, .bool false, .slice none 0 0, .bool false]).flatten.toArray 66)
  have z0m := ikc BM0 z0
  have z2m := ikc BM0 z2
  obtain ⟨rb, hrb⟩ : ∃ rb, X1.heap.size = rb := ⟨_, rfl⟩
  have HRB := hid hrb
  rw [hrb] at HM0 BM0 hfb
  go_wp2_with fail
  go_loopw [29] (fun i wr => ∃ (k : Nat) (C' : List (List Value)), k ≤ S.length ∧ i = .int .i64 (k : Int) ∧ Hid (Qb wr rb C' (expL S X n k) (KK K k)) ∧ Below rb X1 wr) (fun i _ => S.length - (intOf i).toNat)
  case atStart => exact ⟨0, _, Nat.zero_le _, rfl, HM0, BM0⟩
  case round =>
    obtain ⟨k, C', hk, rfl, HQ, bW⟩ := hrel
    have bW' : Below X1.heap.size X1 wr := by rw [HRB.out]; exact bW
    by_cases hlt : k < S.length
    · obtain ⟨b, off, c', e, _, _, q0, q1, q2⟩ := (HL.out.below bW').at k hlt
      simp only [Value.slice.injEq] at e
      obtain ⟨rfl, -, rfl⟩ := e
      have hli : (0 : Int) ≤ (k : Int) ∧ (k : Int) < (S.length : Int) := by omega
      have HFQ := hid (HQB.out.below bW')
      have hfit := HFIT.out _ (List.getElem_mem hlt)
      have HNX := hid (show expL S X n (k + 1) = exp1 (expL S X n k) S[k] (rat' X k) by simp only [expL]; rw [getD_mem hlt])
      have HKL := hid (kk_le K k (by omega))
      have HKM := hid (kk_ge K k)
      have HKS := hid (show KK K (k + 1) = 4 * KK K k + 36 from rfl)
      obtain ⟨Kk, HKK⟩ : ∃ Kk, Hid (KK K k = Kk) := ⟨_, hid rfl⟩
      rw [HKK.out] at HKL HQ HKS HKM
      obtain ⟨E, HE⟩ : ∃ E, Hid (expL S X n k = E) := ⟨_, hid rfl⟩
      have HEL := hid (show E.length = n by rw [← HE.out]; exact expL_len S X n k)
      rw [HE.out] at HNX HQ
      have HXK := hid (show X[k]'(by rw [HXL.out]; exact hlt) = rat' X k from rat_get _)
      generalize S[k] = l at *
      obtain ⟨lf, lt, lcap⟩ := l
      obtain ⟨f1, f2, f3, f4, f5, -⟩ := hfit
      simp only at f1 f2 f3 f4 f5 HNX q0 q1 q2
      obtain ⟨a, rfl⟩ : ∃ a : Nat, lf = a := ⟨lf.toNat, by omega⟩
      obtain ⟨b', rfl⟩ : ∃ b' : Nat, lt = b' := ⟨lt.toNat, by omega⟩
      have hal : a < E.length := by rw [HEL.out]; omega
      have hbl : b' < E.length := by rw [HEL.out]; omega
      have HAL := hid hal
      have HBL := hid hbl
      have hai : (0 : Int) ≤ (a : Int) ∧ (a : Int) < (n : Int) := by omega
      have hbi : (0 : Int) ≤ (b' : Int) ∧ (b' : Int) < (n : Int) := by omega
      have hkF : (0 : Int) ≤ (k : Int) ∧ (k : Int) < (S.length : Int) := hli
      have bA := ibel wr (Obj.cells #[.int .i64 (a : Int), .int .i64 (b' : Int), .int .i64 lcap] 50)
      have xA := inew wr (Obj.cells #[.int .i64 (a : Int), .int .i64 (b' : Int), .int .i64 lcap] 50)
      have hwr1 : rb < wr.heap.size := lt_of_block HQ.out.blk
      have hwr : rb ≤ wr.heap.size := Nat.le_of_lt hwr1
      have HQ2 := hid (HQ.out.below bA)
      have HF2 := hid (HFQ.out.below bA)
      have BW2 := bW.trans (bA.mono hwr)
      have u0 := ibx xA 0 (.int .i64 (a : Int)) rfl
      have u1 := ibx xA 1 (.int .i64 (b' : Int)) rfl
      have hline : rb < wr.heap.size + 1 := by omega
      obtain ⟨_, _, _, _, y0, y1, y2, y3, hqa⟩ := HQ2.out.at a HAL.out
      obtain ⟨e1, e2, e3, e4, e5, e6, e7, e8, e⟩ := hqa.form
      simp only [Value.agg.injEq, Array.mk.injEq, List.cons.injEq, and_true] at e
      obtain ⟨rfl, rfl, rfl, rfl⟩ := e
      obtain ⟨_, _, _, _, d0, d1, d2, d3, hqf⟩ := HF2.out.at k (by rw [HXL.out]; exact hlt)
      obtain ⟨h1, h2, h3, h4, h5, h6, h7, h8, e⟩ := hqf.form
      simp only [Value.agg.injEq, Array.mk.injEq, List.cons.injEq, and_true] at e
      obtain ⟨rfl, rfl, rfl, rfl⟩ := e
      rw [HXK.out] at hqf
      have HQF := hid hqf
      have HADD := hid (fun (Y : World) (bY : Below (wr.alloc (Obj.cells #[.int .i64 (a : Int), .int .i64 (b' : Int), .int .i64 lcap] 50)).heap.size (wr.alloc (Obj.cells #[.int .i64 (a : Int), .int .i64 (b' : Int), .int .i64 lcap] 50)) Y) => q_add Y _ _ E[a] (rat' X k) Kk (by have := HKL.out; omega) (hqa.below bY) ((hqf.mono HKM.out).below bY))
      have HEA := hid (show E[a] = rat' E a from rat_get _)
      have HEX1 := hid (show exp1 E ⟨a, b', lcap⟩ (rat' X k) = (E.set a (rat' E a + rat' X k)).set b' (rat' E b' - rat' X k) by simp [exp1])
      have HEB := hid (show ∀ q, rat' (E.set a q) b' = rat' E b' from fun q => by rw [rat_set, if_neg (fun h => f5 (by rw [h.1]))])
      generalize rat' X k = xk at *
      clear hqa hqf bA bW bW' hal hbl HQ HFQ xA HE
      go_upto_region 8 with fail
      generalize hWl : wr.alloc (Obj.cells #[.int .i64 (a : Int), .int .i64 (b' : Int), .int .i64 lcap] 50) = W at *
      have hWs : rb ≤ W.heap.size := by rw [← hWl]; simp; omega
      clear hWl
      have F0 : Below W.heap.size W W.drew := (Below.refl _ _).drew
      go_cut [] (fun wx => ∃ C2, Hid (Qb wx rb C2 (E.set a (E[a]'HAL.out + xk)) (2 * Kk + 12)) ∧ Below rb X1 wx ∧ wx.cell? ⟨wr.heap.size, 0, none⟩ = some (.int .i64 (a : Int)) ∧ wx.cell? ⟨wr.heap.size, 1, none⟩ = some (.int .i64 (b' : Int)))
      case first =>
        first
        | (go_region_with (first
            | (go_at_call 31; refine (HADD.out _ (by first | exact Below.refl _ _ | exact (Below.refl _ _).drew | exact below_dn (Below.refl _ _) _)).mono ?_; rintro e X4 ⟨v4, rfl, n4, b4⟩; obtain ⟨g1, g2, g3, g4, g5, g6, g7, g8, rfl⟩ := n4.form; have bX4 : Below W.heap.size W X4 := ⟨b4.os, b4.tape, b4.output, b4.size, b4.block⟩; have HQ4 := hid (HQ2.out.below bX4); obtain ⟨_, _, _, _, c0, c1, c2, c3, -⟩ := HQ4.out.at a HAL.out; have fr := fun j => HQ4.out.free j; have u0' := ikc bX4 u0; have u1' := ikc bX4 u1; clear b4)))
        | fail
        all_goals
          have HQ5 := hid ((HQ4.out.mono (show Kk ≤ 2 * Kk + 12 by omega)).set a HAL.out n4)
          have bV := set4_below (o := a * 4) (BW2.trans (bX4.mono hWs)) (Nat.le_refl _) (.slice g1 g2 g3) (.bool g4) (.slice g5 g6 g7) (.bool g8)
          have v0 := cell_set4_ne (show wr.heap.size ≠ rb by omega) u0' (a * 4) (.slice g1 g2 g3) (.bool g4) (.slice g5 g6 g7) (.bool g8)
          have v1 := cell_set4_ne (show wr.heap.size ≠ rb by omega) u1' (a * 4) (.slice g1 g2 g3) (.bool g4) (.slice g5 g6 g7) (.bool g8)
          clear u0' u1' n4 HQ4 bX4 c0 c1 c2 c3 fr y0 y1 y2 y3 d0 d1 d2 d3 u0 u1 F0 HADD
          (try go_wp2_with fail)
          go_meet
          exact ⟨_, HQ5, bV, v0, v1⟩
      case rest =>
        obtain ⟨C2, HQ5, bV, u0, u1⟩ := hcut
        generalize wc = W9 at *
        have HBL2 := hid (show b' < (E.set a (E[a]'HAL.out + xk)).length by rw [List.length_set]; exact HBL.out)
        have HE2 := hid (show (E.set a (E[a]'HAL.out + xk)).set b' ((E.set a (E[a]'HAL.out + xk))[b']'HBL2.out - xk) = exp1 E ⟨a, b', lcap⟩ xk by
          rw [HEX1.out, rat_get HBL2.out, HEB.out]
          exact congrArg (fun q => (E.set a (q + xk)).set b' (rat' E b' - xk)) HEA.out)
        have hw9 : rb ≤ W9.heap.size := Nat.le_of_lt (lt_of_block HQ5.out.blk)
        have HF9 := hid (HQB.out.below (by rw [HRB.out]; exact bV))
        clear HQF HQ2 HF2 BW2 HADD F0 hWs y0 y1 y2 y3 d0 d1 d2 d3 HEX1 HEA HEB u0
        generalize hE9 : E.set a (E[a]'HAL.out + xk) = E9 at *
        clear hE9
        obtain ⟨_, _, _, _, y0, y1, y2, y3, hqa⟩ := HQ5.out.at b' HBL2.out
        obtain ⟨e1, e2, e3, e4, e5, e6, e7, e8, e⟩ := hqa.form
        simp only [Value.agg.injEq, Array.mk.injEq, List.cons.injEq, and_true] at e
        obtain ⟨rfl, rfl, rfl, rfl⟩ := e
        obtain ⟨_, _, _, _, d0, d1, d2, d3, hqf⟩ := HF9.out.at k (by rw [HXL.out]; exact hlt)
        obtain ⟨h1, h2, h3, h4, h5, h6, h7, h8, e⟩ := hqf.form
        simp only [Value.agg.injEq, Array.mk.injEq, List.cons.injEq, and_true] at e
        obtain ⟨rfl, rfl, rfl, rfl⟩ := e
        rw [HXK.out] at hqf
        have HSB := hid (fun (Y : World) (bY : Below W9.heap.size W9 Y) => q_sub Y _ _ (E9[b']'HBL2.out) xk (2 * Kk + 12) (by have := HKL.out; omega) (hqa.below bY) ((hqf.mono (by have := HKM.out; omega)).below bY))
        have F0 : Below W9.heap.size W9 W9.drew := (Below.refl _ _).drew
        clear hqa hqf HF9
        go_upto_region 9 with fail
        first
        | (go_region_with (first
            | (go_at_call 32; refine (HSB.out _ (by first | exact Below.refl _ _ | exact (Below.refl _ _).drew | exact below_dn (Below.refl _ _) _)).mono ?_; rintro e X4 ⟨v4, rfl, n4, b4⟩; obtain ⟨g1, g2, g3, g4, g5, g6, g7, g8, rfl⟩ := n4.form; have bX4 : Below W9.heap.size W9 X4 := ⟨b4.os, b4.tape, b4.output, b4.size, b4.block⟩; have HQ4 := hid (HQ5.out.below bX4); obtain ⟨_, _, _, _, c0, c1, c2, c3, -⟩ := HQ4.out.at b' HBL2.out; have fr := fun j => HQ4.out.free j; have u1' := ikc bX4 u1; clear b4)))
        | fail
        all_goals
          have HQ6 := hid ((HQ4.out.mono (show 2 * Kk + 12 ≤ 2 * (2 * Kk + 12) + 12 by omega)).set b' HBL2.out n4)
          have bV2 := set4_below (o := b' * 4) (bV.trans (bX4.mono hw9)) (Nat.le_refl _) (.slice g1 g2 g3) (.bool g4) (.slice g5 g6 g7) (.bool g8)
          clear u1' n4 HQ4 bX4 c0 c1 c2 c3 fr y0 y1 y2 y3 d0 d1 d2 d3 u1 F0 HSB HQ5 bV
          generalize (((X4.setCell ⟨rb, b' * 4, none⟩ (.slice g1 g2 g3)).setCell ⟨rb, b' * 4 + 1, none⟩ (.bool g4)).setCell ⟨rb, b' * 4 + 2, none⟩ (.slice g5 g6 g7)).setCell ⟨rb, b' * 4 + 3, none⟩ (.bool g8) = V at *
          have HQN := hid (show Qb V rb _ (expL S X n (k + 1)) (KK K (k + 1)) by rw [HNX.out, ← HE2.out, HKS.out]; exact HQ6.out.mono (by omega))
          clear HQ6
          (try go_wp2_with fail)
          go_roundw
          case rel => exact ⟨k + 1, _, by omega, by go_num, HQN, bV2⟩
          case measure => simp [intOf]; omega
    · obtain rfl : k = S.length := by omega
      obtain ⟨V, hV⟩ : ∃ V, V = wr := ⟨_, rfl⟩
      subst hV
      have hEE := expL_exps HFIT.out X
      have HQS := hid (show Qb V rb C' (exps S X n) (64 * K + 756) by rw [← hEE]; exact HQ.out.mono (kk_le K S.length hl3))
      have HTB := hid (HTAB.out.below bW')
      have z0v := ikc bW' z0
      have BV := hid (B1.trans (bW'.mono B1.size))
      have bM := ibel V (Obj.cells (strV (List.replicate n ByteArray.empty)).toArray 9)
      have N0 := hid (show Sb (V.alloc (Obj.cells (strV (List.replicate n ByteArray.empty)).toArray 9)) V.heap.size (sofarS n []) from by
        have := inew V (Obj.cells (strV (List.replicate n ByteArray.empty)).toArray 9)
        simpa [Sb, sofarS] using this)
      have HEL := hid (exps_len S X n)
      have HKB := hid (show 64 * K + 756 ≤ 1000000 by omega)
      have hwv : w.heap.size ≤ V.heap.size := BV.out.size
      clear hEE HQ bW bW' hlt z0 z2 z0m z2m
      go_wp2_with fail
      go_loopw [68] (fun iv wr => ∃ (k : Nat) (Z : List ByteArray), k ≤ n ∧ iv = .int .i64 (k : Int) ∧ Hid (TxL Z ((exps S X n).take k)) ∧ Hid (∀ s ∈ Z, s.size ≤ 1280 * K + 15135) ∧ Hid (Sb wr V.heap.size (sofarS n Z)) ∧ Below V.heap.size V wr) (fun i _ => n - (intOf i).toNat)
      case atStart => exact ⟨0, [], Nat.zero_le _, rfl, hid (by simpa using TxL.nil), hid (by simp), N0, bM⟩
      case round =>
        obtain ⟨k, Z, hk, rfl, HTL, HTS, HSB, bw⟩ := hrel
        have HZL := hid (show Z.length = k by have := HTL.out.len; rw [List.length_take, HEL.out] at this; omega)
        by_cases hlt : k < n
        · have hli : (0 : Int) ≤ (k : Int) ∧ (k : Int) < (n : Int) := by omega
          have hltI : (k : Int) < (n : Int) := by omega
          obtain ⟨_, _, _, _, y0, y1, y2, y3, hqa⟩ := (HQS.out.below bw).at k (by rw [HEL.out]; exact hlt)
          obtain ⟨e1, e2, e3, e4, e5, e6, e7, e8, e⟩ := hqa.form
          simp only [Value.agg.injEq, Array.mk.injEq, List.cons.injEq, and_true] at e
          obtain ⟨rfl, rfl, rfl, rfl⟩ := e
          have bA := ibel wr (Obj.cells #[.slice e1 e2 e3, .bool e4, .slice e5 e6 e7, .bool e8] 66)
          obtain ⟨r0, r1, r2, r3⟩ := four_cell (inew wr (Obj.cells #[.slice e1 e2 e3, .bool e4, .slice e5 e6 e7, .bool e8] 66))
          have HQI := hid (hqa.below bA)
          have HTX := hid (q_text _ _ _ _ HKB.out HQI.out (HTB.out.below (bw.trans (bA.mono bw.size))))
          have HPU := hid (fun (st : ByteArray) (h : TxR st ((exps S X n)[k]'(by rw [HEL.out]; exact hlt))) => HTL.out.push (by rw [HEL.out]; exact hlt) h)
          have HS2 := hid (HSB.out.below bA)
          have BW2 := bw.trans (bA.mono bw.size)
          clear hqa bA
          go_wp2_with fail
          refine HTX.out.mono ?_
          rintro e X2 ⟨⟨st, rfl, hst⟩, bX2⟩
          have HSZ := hid (q_size HQI.out hst)
          have HNT := hid (HPU.out st hst)
          have HTS' := hid (show ∀ s ∈ Z ++ [st], s.size ≤ 1280 * K + 15135 from fun s hs => by
            rcases List.mem_append.1 hs with h | h
            · exact HTS.out s h
            · rw [List.mem_singleton] at h; subst h; have := HSZ.out; omega)
          have HS3 := hid (HS2.out.below bX2)
          have hcell := HS3.out.cell k (by rw [sofarS_len (by rw [HZL.out]; exact hk)]; exact hlt)
          have hfree := HS3.out.free k
          have HS4 := hid (show Sb (X2.setCell ⟨V.heap.size, k, none⟩ (.string st)) V.heap.size (sofarS n (Z ++ [st])) by
            have := HS3.out.set k st
            rw [← sofarS_set (by rw [HZL.out]; exact hlt), HZL.out]
            exact this)
          have BN := (BW2.trans (bX2.mono BW2.size)).setCell (p := ⟨V.heap.size, k, none⟩) (Nat.le_refl _) (.string st)
          clear HTX HQI HPU HSZ hst bX2 y0 y1 y2 y3 r0 r1 r2 r3 HTL HTS HS2 HS3 HSB BW2
          go_wp2_with fail
          go_roundw
          case rel => exact ⟨k + 1, _, by omega, by go_num, HNT, HTS', HS4, BN⟩
          case measure => simp [intOf]; omega
        · obtain rfl : k = n := by omega
          have hTL := HTL.out
          rw [List.take_of_length_le (by rw [HEL.out]; exact Nat.le_refl _)] at hTL
          have hSS := HSB.out
          rw [show sofarS k Z = Z by have := sofarS_all Z; rw [HZL.out] at this; exact this] at hSS
          have hST : Strs wr (.slice (some ⟨V.heap.size, 0, none⟩) k k) Z := by
            refine ⟨?_, fun x hx => ?_⟩
            · have := Row1.of_block hSS (by rw [strV_len, HZL.out]; unfold maxLen; omega)
              rw [strV_len, HZL.out] at this
              exact this
            · have := HTS.out x hx
              unfold maxLen
              omega
          have HQ := hid (HQE.out _ Z wr hST hTL HTS.out)
          have BF := BV.out.trans (bw.mono hwv)
          clear hTL HTL HQE hSS hST
          go_wp2_with fail
          go_ret2
          exact ⟨HQ.out, BF⟩
end Go.Proofs.YtmoailbilnkfnaaGreatDoor
