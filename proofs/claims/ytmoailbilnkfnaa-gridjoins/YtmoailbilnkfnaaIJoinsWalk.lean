/- GridJoins. -/
import Derived.Test.YtmoailbilnkfnaaIIsl
import Derived.Test.YtmoailbilnkfnaaICheckM
import Derived.Test.YtmoailbilnkfnaaIHeavy
import Derived.Test.YtmoailbilnkfnaaIJoinsM
import Derived.Deep.RegionHeld3
import Derived.Deep.RegionWith
import Derived.BigRegion
import Derived.BigQuiet
import Derived.Deep.QuietTactic
namespace Go.Proofs.Ytmoailbilnkfnaa
open Go.RowKit
set_option linter.unusedVariables false
set_option maxRecDepth 100000
set_option linter.unusedSimpArgs false

set_option maxHeartbeats 12800000 in
theorem gridJoins_any (w : World) (g : Gr) (la : Option Addr) (lc : Nat) (h : Lns w (.slice la g.lines.length lc) g.lines) :
    Calls Try.prog 3 #[.agg #[.int .i64 g.zones, .int .i64 g.hours, .slice la g.lines.length lc, .int .i64 g.low, .int .i64 g.high]] w fun e w' => e = .returned (.bool true) ∧ Below w.heap.size w w' := by
  obtain ⟨er, HER⟩ : ∃ er, Hid (errG g = er) := ⟨_, hid rfl⟩
  have HOK := hid (show er = 0 → gok g = true from fun e => by rw [← HER.out] at e; unfold errG at e; split at e; assumption; cases e)
  have HFT := hid (fun (hh : gok g = true) => gok_fit hh)
  have HGI := hid (fun (hh : gok g = true) => (gok_iff.1 hh).1)
  have HIC0 := hid (fun (Y : World) (hY : Lns Y (.slice la g.lines.length lc) g.lines) => icheck_any Y g la lc hY)
  have HMC0 := hid (fun (Y : World) (hY : Lns Y (.slice la g.lines.length lc) g.lines) => mcheck_any Y g la lc hY)
  have HIS0 := hid (fun (Y : World) (hY : Lns Y (.slice la g.lines.length lc) g.lines) (hh : gok g = true) (n : Nat) (hn : g.zones = n) => iislands_any Y g la lc hY hh n hn)
  have HHV0 := hid (heavy14_any)
  rw [HER.out] at HIC0 HMC0
  have HHV1 := hid (fun (Y : World) (hY : Lns Y (.slice la g.lines.length lc) g.lines) => heavy14_any Y g la lc hY (.slice none 0 0) [] (Strs.nil Y))
  clear HER HHV0
  obtain ⟨Z, H, lo, hi, S⟩ := g
  simp only at h HFT HGI HIC0 HMC0 HIS0 HHV1 ⊢
  have b0 := ibel w (Obj.cells #[.int .i64 Z, .int .i64 H, .slice la S.length lc, .int .i64 lo, .int .i64 hi] 24)
  have x0 := inew w (Obj.cells #[.int .i64 Z, .int .i64 H, .slice la S.length lc, .int .i64 lo, .int .i64 hi] 24)
  have z0 := ibx x0 0 (.int .i64 Z) rfl
  have z1 := ibx x0 1 (.int .i64 H) rfl
  have z2 := ibx x0 2 (.slice la S.length lc) rfl
  have z3 := ibx x0 3 (.int .i64 lo) rfl
  have z4 := ibx x0 4 (.int .i64 hi) rfl
  have HL := hid (h.below b0)
  obtain ⟨a', c', e', hl, hm⟩ := h.slice
  simp only [Value.slice.injEq] at e'
  obtain ⟨rfl, -, rfl⟩ := e'
  unfold maxLen at hm
  have HB0 := hid b0
  clear h x0 b0
  go_enter Try.func3, Try.ntmps3
  go_wp2_with fail
  generalize hW : w.alloc (Obj.cells #[.int .i64 Z, .int .i64 H, .slice la S.length lc, .int .i64 lo, .int .i64 hi] 24) = W at *
  clear hW
  have HKx := hid (fun (Y : World) (k : Below W.heap.size W Y) => show (Y.cell? ⟨w.heap.size, 0, none⟩ = some (.int .i64 Z) ∧ Y.cell? ⟨w.heap.size, 1, none⟩ = some (.int .i64 H) ∧ Y.cell? ⟨w.heap.size, 2, none⟩ = some (.slice la S.length lc) ∧ Y.cell? ⟨w.heap.size, 3, none⟩ = some (.int .i64 lo) ∧ Y.cell? ⟨w.heap.size, 4, none⟩ = some (.int .i64 hi)) from ⟨ikc k z0, ikc k z1, ikc k z2, ikc k z3, ikc k z4⟩)
  have HIC := hid (fun (Y : World) (k : Below W.heap.size W Y) => HIC0.out Y (HL.out.below k))
  have HMC := hid (fun (Y : World) (k : Below W.heap.size W Y) => HMC0.out Y (HL.out.below k))
  refine (HHV1.out W HL.out).mono ?_
  rintro e X ⟨hv, rfl, -, bX⟩
  obtain ⟨z0, z1, z2, z3, z4⟩ := HKx.out _ bX
  clear HHV1 HIC0 HMC0
  cases hv with
  | true =>
    have F0 : Below X.heap.size X X.drew := (Below.refl _ _).drew
    go_wp2_with fail
    first
    | (go_region_with (first
        | (have gk := F1; go_at_call 5; refine (HMC.out _ (by first | exact bX.trans (F1.mono bX.size) | exact (bX.trans (F1.mono bX.size)).drew | exact below_dn (bX.trans (F1.mono bX.size)) _)).mono ?_; rintro e Y2 ⟨rfl, bb⟩; have F2 : Below X.heap.size X Y2 := (by first | exact F1.trans (bb.mono F1.size) | exact F1.trans (Below.mono ⟨bb.os, bb.tape, bb.output, bb.size, bb.block⟩ F1.size)))
        | (go_at_call 6; refine (HIC.out _ (by first | exact bX | exact bX.drew | exact below_dn bX _)).mono ?_; rintro e Y1 ⟨rfl, bb⟩; have F1 : Below X.heap.size X Y1 := (by first | exact bb | exact ⟨bb.os, bb.tape, bb.output, bb.size, bb.block⟩); obtain ⟨a0, a1, a2, a3, a4⟩ := HKx.out _ (bX.trans (F1.mono bX.size)))))
    | fail
    all_goals
      have BF := HB0.out.trans ((bX.trans (F2.mono bX.size)).mono HB0.out.size)
      (try simp only [List.getElem_toArray, List.getElem_cons_zero, List.getElem_cons_succ, Act.put, List.setIfInBounds_toArray, List.set_cons_succ, List.set_cons_zero])
      go_wp2_with fail
      go_ret
      exact ⟨by simp, by first | exact BF | exact BF.drew | exact below_dn BF _⟩
  | false =>
    go_wp2_with fail
    refine (HMC.out X bX).mono ?_
    rintro e X2 ⟨rfl, bX2⟩
    have bX := bX.trans (bX2.mono bX.size)
    clear bX2
    generalize X2 = X at *
    obtain ⟨z0, z1, z2, z3, z4⟩ := HKx.out _ bX
    by_cases he : er = 0
    case neg =>
      have he' : (er == 0) = false := by simpa using he
      have he'' : (er != 0) = true := by simpa using he
      have F0 : Below X.heap.size X X.drew := (Below.refl _ _).drew
      go_wp2_with fail
      first
      | (go_region_with (first
          | (have gk := F1; go_at_call 5; refine (HMC.out _ (by first | exact bX.trans (F1.mono bX.size) | exact (bX.trans (F1.mono bX.size)).drew | exact below_dn (bX.trans (F1.mono bX.size)) _)).mono ?_; rintro e Y2 ⟨rfl, bb⟩; have F2 : Below X.heap.size X Y2 := (by first | exact F1.trans (bb.mono F1.size) | exact F1.trans (Below.mono ⟨bb.os, bb.tape, bb.output, bb.size, bb.block⟩ F1.size)))
          | (go_at_call 6; refine (HIC.out _ (by first | exact bX | exact bX.drew | exact below_dn bX _)).mono ?_; rintro e Y1 ⟨rfl, bb⟩; have F1 : Below X.heap.size X Y1 := (by first | exact bb | exact ⟨bb.os, bb.tape, bb.output, bb.size, bb.block⟩); obtain ⟨a0, a1, a2, a3, a4⟩ := HKx.out _ (bX.trans (F1.mono bX.size)))))
      | fail
      all_goals
        have BF := HB0.out.trans ((bX.trans (F2.mono bX.size)).mono HB0.out.size)
        (try simp only [List.getElem_toArray, List.getElem_cons_zero, List.getElem_cons_succ, Act.put, List.setIfInBounds_toArray, List.set_cons_succ, List.set_cons_zero])
        go_wp2_with fail
        go_ret
        exact ⟨by simp, by first | exact BF | exact BF.drew | exact below_dn BF _⟩
    have ok := HOK.out he
    subst he
    have hz := HGI.out ok
    have HFIT0 := hid (HFT.out ok)
    obtain ⟨n, rfl⟩ : ∃ n : Nat, Z = n := ⟨Z.toNat, by omega⟩
    have HFIT := hid (show Fit S n from HFIT0.out)
    have HLX0 := hid (HL.out.below bX)
    have HIS1 := hid (HIS0.out X HLX0.out ok n rfl)
    clear HFIT0 HOK HFT HGI HIS0 HIC HMC ok
    go_wp2_with fail
    refine HIS1.out.mono ?_
    rintro e X1 ⟨R, v, rfl, hI, hIs, hClo, bX1⟩
    have bX := bX.trans (bX1.mono bX.size)
    have HLX := hid (HLX0.out.below bX1)
    clear HLX0 HIS1 bX1
    generalize X1 = X at *
    obtain ⟨z0, z1, z2, z3, z4⟩ := HKx.out _ bX
    have HBX := hid bX
    have HIS := hid hIs
    have HCLO := hid hClo
    have HLN := hid hIs.len
    have HSELF := hid (fun z hz => isl_self HFIT.out hIs hClo z hz)
    have HMK := bmake n (by omega)
    obtain ⟨b, off, c, rfl, hc1, hc2, hC⟩ := ints_at hI (by rw [hIs.len]; omega)
    unfold maxLen at hc2
    have HC := hid hC
    rw [hIs.len] at hc1 ⊢
    clear hC hI hIs hClo bX HL HKx z1 z3 z4
    go_wp2_with fail
    go_loopw [4] (fun i wr => ∃ k : Nat, k ≤ n ∧ i = .int .i64 (k : Int) ∧ Below X.heap.size X wr) (fun i _ => n - (intOf i).toNat)
    case atStart => exact ⟨0, Nat.zero_le _, rfl, Below.refl _ _⟩
    case round =>
      obtain ⟨k, hk, rfl, bW⟩ := hrel
      have y0 := ikc bW z0
      by_cases hlt : k < n
      · have c1 := ikc bW (HC.out k (by rw [HLN.out]; exact hlt))
        have hle := HIS.out.le k hlt
        have c2 := ikc bW (HC.out (at' R k) (by rw [HLN.out]; omega))
        rw [HSELF.out k hlt] at c2
        generalize at' R k = r at *
        have hd : decide ((k : Int) < (r : Int)) = false := decide_eq_false (by omega)
        have hkI : (0 : Int) ≤ (k : Int) ∧ (k : Int) < (n : Int) := by omega
        have hrI : (0 : Int) ≤ (r : Int) ∧ (r : Int) < (n : Int) := by omega
        have bN := below_dn bW
        go_wp2_with fail
        go_quiet (fail)
        go_wp2_with fail
        go_roundw
        case rel => exact ⟨k + 1, by omega, by go_num, bN _⟩
        case measure => simp [intOf]; omega
      · have hkn : n = k := by omega
        subst hkn
        clear hlt hk
        generalize wr = X' at *
        have HBA := hid bW
        clear bW
        have y2 := ikc HBA.out z2
        go_wp2_with fail
        go_loopw [5] (fun i wr => ∃ k : Nat, k ≤ S.length ∧ i = .int .i64 (k : Int) ∧ Below X.heap.size X wr) (fun i _ => S.length - (intOf i).toNat)
        case atStart => exact ⟨0, Nat.zero_le _, rfl, HBA.out⟩
        case round =>
          obtain ⟨k, hk, rfl, bW⟩ := hrel
          have y2 := ikc bW z2
          by_cases hlt : k < S.length
          · obtain ⟨b', off', c', e, _, _, q0, q1, q2⟩ := (HLX.out.below bW).at k hlt
            simp only [Value.slice.injEq] at e
            obtain ⟨rfl, -, rfl⟩ := e
            have hli : (0 : Int) ≤ (k : Int) ∧ (k : Int) < (S.length : Int) := by omega
            have hin := HFIT.out _ (List.getElem_mem hlt)
            have HCL := hid (HCLO.out _ (List.getElem_mem hlt))
            generalize S[k] = l at *
            obtain ⟨lf, lt, lcap⟩ := l
            simp only at hin q0 q1 q2 HCL
            obtain ⟨f, rfl⟩ : ∃ f : Nat, lf = f := ⟨lf.toNat, by omega⟩
            obtain ⟨t, rfl⟩ : ∃ t : Nat, lt = t := ⟨lt.toNat, by omega⟩
            simp only [Int.toNat_natCast] at HCL
            have hfI : (0 : Int) ≤ (f : Int) ∧ (f : Int) < (n : Int) := by omega
            have htI : (0 : Int) ≤ (t : Int) ∧ (t : Int) < (n : Int) := by omega
            have bN := below_dn bW
            by_cases hcap : 0 < lcap
            · have hcap' : decide (0 < lcap) = true := decide_eq_true hcap
              have cf := ikc bW (HC.out f (by rw [HLN.out]; omega))
              have ct := ikc bW (HC.out t (by rw [HLN.out]; omega))
              rw [HCL.out hcap] at cf
              generalize at' R t = r at *
              clear hcap
              go_wp2_with fail
              go_quiet (fail)
              go_wp2_with fail
              go_roundw
              case rel => exact ⟨k + 1, by omega, by go_num, bN _⟩
              case measure => simp [intOf]; omega
            · have hcap' : decide (0 < lcap) = false := decide_eq_false hcap
              clear hcap
              go_wp2_with fail
              go_quiet (fail)
              go_wp2_with fail
              go_roundw
              case rel => exact ⟨k + 1, by omega, by go_num, bN _⟩
              case measure => simp [intOf]; omega
          · have hkn : k = S.length := by omega
            clear hk hkn
            generalize wr = X'' at *
            have HBB := hid bW
            clear bW
            have y0 := ikc HBB.out z0
            have y2 := ikc HBB.out z2
            go_wp2_with fail
            clear hlt y0 y2
            go_loopw [6] (fun i wr => ∃ k : Nat, k ≤ n ∧ i = .int .i64 (k : Int) ∧ Below X.heap.size X wr) (fun i _ => n - (intOf i).toNat)
            case atStart => exact ⟨0, Nat.zero_le _, rfl, HBB.out⟩
            case round =>
              obtain ⟨k, hk, rfl, bW⟩ := hrel
              generalize wr = X3 at *
              have y0 := ikc bW z0
              by_cases hltz : k < n
              · have c1 := ikc bW (HC.out k (by rw [HLN.out]; exact hltz))
                have hle := HIS.out.le k hltz
                have hkI : (0 : Int) ≤ (k : Int) ∧ (k : Int) < (n : Int) := by omega
                obtain ⟨rb, hrb⟩ : ∃ rb, X3.heap.size = rb := ⟨_, rfl⟩
                have HBX3 := hid bW
                have M0 : Bb (X3.alloc (Obj.cells (bvs (List.replicate n false)).toArray 4)) rb (List.replicate n false) := by
                  have := inew X3 (Obj.cells (bvs (List.replicate n false)).toArray 4)
                  rw [hrb] at this
                  exact this
                have bM := ibel X3 (Obj.cells (bvs (List.replicate n false)).toArray 4)
                have c1a := ikc bM c1
                have y0a := ikc bM y0
                rw [hrb] at bM
                have HREACH := hid (reaches_all HFIT.out ((List.replicate n false).set (at' R k) true) (by simp) (at' R k) k (by omega) (by rw [bat_set]; simp; omega) (HIS.out.con k hltz).symm)
                have m1 := M0.cell (at' R k) (by simp; omega)
                have m2 := M0.free (at' R k)
                have HBB0 := hid (M0.set (at' R k) true)
                have bB0 := bM.setCell (p := ⟨rb, at' R k, none⟩) (Nat.le_refl _) (.bool true)
                generalize at' R k = r at *
                have hrI : (0 : Int) ≤ (r : Int) ∧ (r : Int) < (n : Int) := by omega
                obtain ⟨B0, HB0⟩ : ∃ B0, Hid ((List.replicate n false).set r true = B0) := ⟨_, hid rfl⟩
                have HB0L := hid (show B0.length = n by rw [← HB0.out]; simp)
                rw [HB0.out] at HREACH HBB0
                have HBB0 := hid (show Bb _ rb (reaches S B0 0) from HBB0.out)
                have HBF := hid (show Bb (X3.alloc (Obj.cells ((bvs (List.replicate n false)).set r (.bool true)).toArray 4)) rb (reaches S B0 0) by
                  have := inew X3 (Obj.cells ((bvs (List.replicate n false)).set r (.bool true)).toArray 4)
                  rw [hrb] at this
                  rw [show reaches S B0 0 = (List.replicate n false).set r true from HB0.out.symm]
                  unfold Bb
                  rw [← bvs_set]
                  exact this)
                have bBF := ibel X3 (Obj.cells ((bvs (List.replicate n false)).set r (.bool true)).toArray 4)
                rw [hrb] at bBF
                clear M0 bM bW
                go_wp2_with fail
                go_loopw [8] (fun i wr => ∃ kk : Nat, kk ≤ n ∧ i = .int .i64 (kk : Int) ∧ Hid (Bb wr rb (reaches S B0 kk)) ∧ Below rb X3 wr) (fun i _ => n - (intOf i).toNat)
                case atStart => exact ⟨0, Nat.zero_le _, rfl, by first | exact HBB0 | exact HBF, by first | exact bB0 | exact bBF⟩
                case round =>
                  obtain ⟨kk, hkk, rfl, HBR, bW⟩ := hrel
                  generalize wr = V0 at *
                  have bW' : Below X3.heap.size X3 V0 := by rw [hrb]; exact bW
                  have y0 := ikc (HBX3.out.trans (bW'.mono HBX3.out.size)) z0
                  have y2 := ikc (HBX3.out.trans (bW'.mono HBX3.out.size)) z2
                  by_cases hltk : kk < n
                  · obtain ⟨BK, HKK⟩ : ∃ BK, Hid (reaches S B0 kk = BK) := ⟨_, hid rfl⟩
                    have HKK2 := hid (show reaches S B0 (kk + 1) = reach S BK by rw [← HKK.out]; rfl)
                    have HBKL := hid (show BK.length = n by rw [← HKK.out, reaches_len]; exact HB0L.out)
                    rw [HKK.out] at HBR
                    have HBK := hid (show Bb V0 rb (reach (S.take 0) BK) from HBR.out)
                    clear HBR
                    go_wp2_with fail
                    go_loopw [9] (fun i wr => ∃ j : Nat, j ≤ S.length ∧ i = .int .i64 (j : Int) ∧ Hid (Bb wr rb (reach (S.take j) BK)) ∧ Below rb X3 wr) (fun i _ => S.length - (intOf i).toNat)
                    case atStart => exact ⟨0, Nat.zero_le _, rfl, HBK, bW⟩
                    case round =>
                      obtain ⟨j, hj, rfl, HBR, bV⟩ := hrel
                      have bV' : Below X3.heap.size X3 wr := by rw [hrb]; exact bV
                      have y2 := ikc (HBX3.out.trans (bV'.mono HBX3.out.size)) z2
                      by_cases hltj : j < S.length
                      · obtain ⟨b', off', c', e, _, _, q0, q1, q2⟩ := (HLX.out.below (HBX3.out.trans (bV'.mono HBX3.out.size))).at j hltj
                        simp only [Value.slice.injEq] at e
                        obtain ⟨rfl, -, rfl⟩ := e
                        have hli : (0 : Int) ≤ (j : Int) ∧ (j : Int) < (S.length : Int) := by omega
                        have hin := HFIT.out _ (List.getElem_mem hltj)
                        have HRT := hid (reach_take S BK j hltj)
                        generalize S[j] = l at *
                        obtain ⟨lf, lt, lcap⟩ := l
                        simp only at hin q0 q1 q2
                        obtain ⟨f, rfl⟩ : ∃ f : Nat, lf = f := ⟨lf.toNat, by omega⟩
                        obtain ⟨t, rfl⟩ : ∃ t : Nat, lt = t := ⟨lt.toNat, by omega⟩
                        have hfI : (0 : Int) ≤ (f : Int) ∧ (f : Int) < (n : Int) := by omega
                        have htI : (0 : Int) ≤ (t : Int) ∧ (t : Int) < (n : Int) := by omega
                        obtain ⟨B, HB⟩ : ∃ B, Hid (reach (S.take j) BK = B) := ⟨_, hid rfl⟩
                        rw [HB.out] at HBR HRT
                        have hBn : B.length = n := by rw [← HB.out, reach_len]; exact HBKL.out
                        have bX1 := ibel wr (Obj.cells #[.int .i64 (f : Int), .int .i64 (t : Int), .int .i64 lcap] 31)
                        have x1 := inew wr (Obj.cells #[.int .i64 (f : Int), .int .i64 (t : Int), .int .i64 lcap] 31)
                        have p0 := ibx x1 0 (.int .i64 (f : Int)) rfl
                        have p1 := ibx x1 1 (.int .i64 (t : Int)) rfl
                        have p2 := ibx x1 2 (.int .i64 lcap) rfl
                        have HB1 := hid (HBR.out.below bX1)
                        have cf := HB1.out.cell f (by omega)
                        have ct := HB1.out.cell t (by omega)
                        have ff := HB1.out.free f
                        have ft := HB1.out.free t
                        have hgb : rb < wr.heap.size := lt_of_block HBR.out
                        have bV1 := bV.trans (bX1.mono (by omega))
                        clear HBR x1 bV
                        generalize hWV : wr.alloc (Obj.cells #[.int .i64 (f : Int), .int .i64 (t : Int), .int .i64 lcap] 31) = V at *
                        generalize hgg : wr.heap.size = gq at *
                        have HN2 := hid ((HB1.out.set f true).set t true)
                        have ct2 := (HB1.out.set f true).cell t (by simp; omega)
                        have ft2 := (HB1.out.set f true).free t
                        have p1s : (V.setCell ⟨rb, f, none⟩ (.bool true)).cell? ⟨gq, 1, none⟩ = some (.int .i64 (t : Int)) := by rw [cell_set_ne _ rfl rfl (by omega)]; exact p1
                        have bV2 := (bV1.setCell (p := ⟨rb, f, none⟩) (Nat.le_refl _) (.bool true)).setCell (p := ⟨rb, t, none⟩) (Nat.le_refl _) (.bool true)
                        have HNO := hid (fun (hh : ¬ (0 < lcap ∧ (bat B f = true ∨ bat B t = true))) => show reach (S.take (j + 1)) BK = B by rw [HRT.out]; unfold reach1; simp only [Int.toNat_natCast]; rw [if_neg hh])
                        have HYE := hid (fun (hh : 0 < lcap ∧ (bat B f = true ∨ bat B t = true)) => show reach (S.take (j + 1)) BK = (B.set f true).set t true by rw [HRT.out]; unfold reach1; simp only [Int.toNat_natCast]; rw [if_pos hh])
                        clear HRT
                        generalize hbt : bat (B.set f true) t = bt2 at *
                        clear hbt
                        by_cases hcap : 0 < lcap
                        · have hcap' : decide (0 < lcap) = true := decide_eq_true hcap
                          cases hbf : bat B f with
                          | true =>
                            have HE := hid (HYE.out ⟨hcap, Or.inl hbf⟩)
                            rw [hbf] at cf
                            clear hcap HNO HYE hbf
                            go_wp2_with fail
                            go_roundw
                            case rel => exact ⟨j + 1, by omega, by go_num, by rw [HE.out]; exact HN2, bV2⟩
                            case measure => simp [intOf]; omega
                          | false =>
                            rw [hbf] at cf
                            cases hbt : bat B t with
                            | true =>
                              have HE := hid (HYE.out ⟨hcap, Or.inr hbt⟩)
                              rw [hbt] at ct
                              clear hcap HNO HYE hbf hbt
                              go_wp2_with fail
                              go_roundw
                              case rel => exact ⟨j + 1, by omega, by go_num, by rw [HE.out]; exact HN2, bV2⟩
                              case measure => simp [intOf]; omega
                            | false =>
                              have HE := hid (HNO.out (fun ⟨_, h⟩ => by rcases h with h | h; rw [hbf] at h; cases h; rw [hbt] at h; cases h))
                              rw [hbt] at ct
                              clear hcap HNO HYE hbf hbt
                              go_wp2_with fail
                              go_roundw
                              case rel => exact ⟨j + 1, by omega, by go_num, by rw [HE.out]; exact HB1, bV1⟩
                              case measure => simp [intOf]; omega
                        · have hcap' : decide (0 < lcap) = false := decide_eq_false hcap
                          have HE := hid (HNO.out (fun h => hcap h.1))
                          clear hcap HNO HYE
                          go_wp2_with fail
                          go_roundw
                          case rel => exact ⟨j + 1, by omega, by go_num, by rw [HE.out]; exact HB1, bV1⟩
                          case measure => simp [intOf]; omega
                      · have hjn : j = S.length := by omega
                        have HBN := hid (show Bb wr rb (reaches S B0 (kk + 1)) by have := HBR.out; rw [hjn, List.take_length] at this; rw [← HKK2.out] at this; exact this)
                        clear hjn
                        go_wp2_with fail
                        go_roundw
                        case rel => exact ⟨kk + 1, by omega, by go_num, HBN, bV⟩
                        case measure => simp [intOf]; omega
                  · have hkn : kk = n := by omega
                    have HALL := hid (show bat (reaches S B0 kk) k = true by rw [hkn]; exact HREACH.out)
                    have ck := HBR.out.cell k (by rw [reaches_len, HB0L.out]; exact hltz)
                    rw [HALL.out] at ck
                    clear hkn
                    go_wp2_with fail
                    go_roundw
                    case rel => exact ⟨k + 1, by omega, by go_num, HBX3.out.trans (bW'.mono HBX3.out.size)⟩
                    case measure => simp [intOf]; omega
              · have BF := HB0.out.trans ((HBX.out.trans (bW.mono HBX.out.size)).mono HB0.out.size)
                go_wp2_with fail
                go_ret
                exact ⟨rfl, BF⟩
end Go.Proofs.Ytmoailbilnkfnaa
