/- grid: the program's Islands. -/
import Derived.Test.YtmoailbilnkfnaaGreatDoorZIBlk
import Derived.WalkMore
import Derived.ScopeJumps
import Derived.BigRegion
namespace Go.Proofs.YtmoailbilnkfnaaGreatDoor
open Go.RowKit
set_option linter.unusedVariables false
set_option maxRecDepth 100000
set_option linter.unusedSimpArgs false

set_option maxHeartbeats 6400000 in
theorem iislands_any (w : World) (g : Gr) (la : Option Addr) (lc : Nat) (h : Lns w (.slice la g.lines.length lc) g.lines) (ok : gok g = true) (n : Nat) (hn : g.zones = n) :
    Calls Tryz.prog 17 #[.agg #[.int .i64 g.zones, .int .i64 g.hours, .slice la g.lines.length lc, .int .i64 g.low, .int .i64 g.high]] w fun e w' => ∃ (R : List Nat) (v : Value), e = .returned v ∧ Ints w' v (R.map fun x => ((x : Nat) : Int)) ∧ Isl g.lines n R ∧ Clo g.lines R ∧ Below w.heap.size w w' := by
  have HE0 := hid (show errG g = 0 by unfold errG; rw [if_pos ok])
  have HFIT := hid (gok_fit ok)
  rw [show g.zones.toNat = n by omega] at HFIT
  obtain ⟨hz, -, -, hl3, -⟩ := gok_iff.1 ok
  obtain ⟨Z, H, lo, hi, S⟩ := g
  simp only at hn hz hl3 h HFIT ⊢
  subst hn
  have b0 := ibel w (Obj.cells #[.int .i64 (n : Int), .int .i64 H, .slice la S.length lc, .int .i64 lo, .int .i64 hi] 24)
  have x0 := inew w (Obj.cells #[.int .i64 (n : Int), .int .i64 H, .slice la S.length lc, .int .i64 lo, .int .i64 hi] 24)
  have z0 := ibx x0 0 (.int .i64 (n : Int)) rfl
  have z1 := ibx x0 1 (.int .i64 H) rfl
  have z2 := ibx x0 2 (.slice la S.length lc) rfl
  have z3 := ibx x0 3 (.int .i64 lo) rfl
  have z4 := ibx x0 4 (.int .i64 hi) rfl
  have HL := hid (h.below b0)
  obtain ⟨a', c', e', hl, hm⟩ := h.slice
  simp only [Value.slice.injEq] at e'
  obtain ⟨rfl, -, rfl⟩ := e'
  unfold maxLen at hm
  have HX0 := hid x0
  have HB0 := hid b0
  have HMK := imake n (by omega)
  have HCH := hid (icheck_any (w.alloc (Obj.cells #[.int .i64 (n : Int), .int .i64 H, .slice la S.length lc, .int .i64 lo, .int .i64 hi] 24)) ⟨(n : Int), H, lo, hi, S⟩ la lc HL.out)
  rw [HE0.out] at HCH
  simp only at HCH
  clear h x0 b0 ok HE0
  go_enter Tryz.func17, Tryz.ntmps17
  go_wp2_with fail
  refine wp_scope_jumps 0 (fun a' w' => ∃ (lb : Nat) (W1 : World) (R : List Nat), (∃ (u : Nat → Value), a' = { tmps := #[.agg #[.int .i64 (n : Int), .int .i64 H, .slice la S.length lc, .int .i64 lo, .int .i64 hi], .pointer (some ⟨w.heap.size, 0, none⟩), .slice none 0 0, .slice (some ⟨lb, 0, none⟩) n n, u 4, u 5, u 6, u 7, u 8, u 9, u 10, u 11, u 12, u 13, u 14, u 15, u 16, u 17, u 18, u 19, u 20, u 21, u 22, u 23, u 24, u 25, u 26, u 27, u 28, u 29, u 30, u 31, u 32, u 33, u 34, u 35, u 36, u 37, u 38, u 39, u 40, u 41, u 42, u 43, u 44, u 45, u 46, u 47, u 48, u 49, u 50, u 51, u 52, u 53, u 54, u 55, u 56, u 57, u 58, u 59, u 60, u 61, u 62, u 63, u 64, u 65], defers := [] }) ∧ Ib w' lb R ∧ Isl S n R ∧ Below lb W1 w' ∧ W1.heap.size = lb ∧ Below w.heap.size w W1 ∧ Lns W1 (.slice la S.length lc) S ∧ W1.cell? ⟨w.heap.size, 2, none⟩ = some (.slice la S.length lc)) (fun a' w' => muB (blkOf (a'.tmps.getD 3 undef)) w') rfl ?_ ?_
  · go_wp2_with fail
    refine HCH.out.mono ?_
    rintro e W1 ⟨rfl, bW1⟩
    have B1 := HB0.out.trans (bW1.mono HB0.out.size)
    have HL1 := hid (HL.out.below bW1)
    have z0 := ikc bW1 z0
    have y2 := ikc bW1 z2
    clear z1 z2 z3 z4 HCH HB0 HX0 HL bW1
    obtain ⟨lb, hlb⟩ : ∃ lb, W1.heap.size = lb := ⟨_, rfl⟩
    have HM0 := hid (show Ib (W1.alloc (Obj.cells (iv (List.replicate n 0)).toArray 3)) lb (firstR n 0) from by
      have := inew W1 (Obj.cells (iv (List.replicate n 0)).toArray 3)
      rw [hlb] at this
      simpa [Ib, firstR] using this)
    have BM0 := ibel W1 (Obj.cells (iv (List.replicate n 0)).toArray 3)
    rw [hlb] at BM0
    go_wp2_with fail
    go_loopw [17] (fun i wr => ∃ k : Nat, k ≤ n ∧ i = .int .i64 (k : Int) ∧ Hid (Ib wr lb (firstR n k)) ∧ Below lb W1 wr) (fun i _ => n - (intOf i).toNat)
    case atStart => exact ⟨0, Nat.zero_le _, rfl, HM0, BM0⟩
    case round =>
      obtain ⟨k, hk, rfl, HBR, bW⟩ := hrel
      by_cases hlt : k < n
      · have hli : (0 : Int) ≤ (k : Int) ∧ (k : Int) < (n : Int) := by omega
        have ck := HBR.out.cell k (by rw [firstR_len hk]; exact hlt)
        have fr := HBR.out.free k
        have HN := hid (firstR_succ hlt ▸ HBR.out.set k k)
        have bN := bW.setCell (p := ⟨lb, k, none⟩) (Nat.le_refl _) (.int .i64 (k : Int))
        clear HBR
        go_wp2_with fail
        go_roundw
        case rel => exact ⟨k + 1, by omega, by go_num, HN, bN⟩
        case measure => simp [intOf]; omega
      · have hkl : n = k := by omega
        subst hkl
        rw [firstR_all] at HBR
        obtain ⟨R, HRR⟩ : ∃ R, Hid (R = List.range n) := ⟨_, hid rfl⟩
        rw [← HRR.out] at HBR
        have hB := HBR.out
        have hI : Isl S n R := by rw [HRR.out]; exact isl_range S n
        clear HBR hlt hk HRR
        generalize wr = W2 at *
        have hWl := bW
        clear bW HM0 BM0
        have y2' := ikc (by rw [hlb]; exact hWl) y2
        go_wp2_with fail
        go_step3
        have HB := hid hB
        have HI := hid hI
        have HWL := hid hWl
        clear hB hI hWl
        go_wp2_with fail
        go_loopw [28] (fun i wr => ∃ k : Nat, k ≤ S.length ∧ i = .int .i64 (k : Int) ∧ Hid (CloK S R k) ∧ Hid (Ib wr lb R) ∧ Below lb W1 wr) (fun i _ => S.length - (intOf i).toNat)
        case atStart => exact ⟨0, Nat.zero_le _, rfl, hid (fun i hi => absurd hi (Nat.not_lt_zero _)), HB, HWL.out⟩
        case round =>
          obtain ⟨k, hk, rfl, HK, HBR, bW⟩ := hrel
          have y2w := ikc (by rw [hlb]; exact bW) y2
          by_cases hlt : k < S.length
          · obtain ⟨b, off, c', e, _, _, q0, q1, q2⟩ := (HL1.out.below (by rw [hlb]; exact bW)).at k hlt
            simp only [Value.slice.injEq] at e
            obtain ⟨rfl, -, rfl⟩ := e
            have hli : (0 : Int) ≤ (k : Int) ∧ (k : Int) < (S.length : Int) := by omega
            have hin := HFIT.out _ (List.getElem_mem hlt)
            have HMEM := hid (List.getElem_mem hlt)
            have HCS := hid (fun e => HK.out.succ hlt e)
            generalize S[k] = l at *
            obtain ⟨lf, lt, lcap⟩ := l
            simp only at hin q0 q1 q2 HCS
            obtain ⟨f, rfl⟩ : ∃ f : Nat, lf = f := ⟨lf.toNat, by omega⟩
            obtain ⟨t, rfl⟩ : ∃ t : Nat, lt = t := ⟨lt.toNat, by omega⟩
            simp only [Int.toNat_natCast] at HCS
            have bX := ibel wr (Obj.cells #[.int .i64 (f : Int), .int .i64 (t : Int), .int .i64 lcap] 50)
            have x1 := inew wr (Obj.cells #[.int .i64 (f : Int), .int .i64 (t : Int), .int .i64 lcap] 50)
            have p0 := ibx x1 0 _ rfl
            have p1 := ibx x1 1 _ rfl
            have p2 := ibx x1 2 _ rfl
            have HBX := HBR.out.below bX
            have hfi : (0 : Int) ≤ (f : Int) ∧ (f : Int) < (n : Int) := by omega
            have hti : (0 : Int) ≤ (t : Int) ∧ (t : Int) < (n : Int) := by omega
            have hRn := HI.out.len
            have cf := HBX.cell f (by omega)
            have ct := HBX.cell t (by omega)
            have bWX := bW.trans (bX.mono (by have := bW.size; omega))
            have HBX' := hid HBX
            have hlf : lb < wr.heap.size := lt_of_block HBR.out
            have hft : f ≠ t := by omega
            clear HK HBR x1 HBX hRn
            obtain ⟨av, HAV⟩ : ∃ av, Hid (at' R f = av) := ⟨_, hid rfl⟩
            obtain ⟨bv, HBV⟩ : ∃ bv, Hid (at' R t = bv) := ⟨_, hid rfl⟩
            rw [HAV.out] at cf
            rw [HBV.out] at ct
            go_wp2_with fail
            go_region
            have p0 : (wr.alloc (Obj.cells #[.int .i64 (f : Int), .int .i64 (t : Int), .int .i64 lcap] 50)).drew.cell? ⟨wr.heap.size, 0, none⟩ = some (.int .i64 (f : Int)) := p0
            have p1 : (wr.alloc (Obj.cells #[.int .i64 (f : Int), .int .i64 (t : Int), .int .i64 lcap] 50)).drew.cell? ⟨wr.heap.size, 1, none⟩ = some (.int .i64 (t : Int)) := p1
            have p2 : (wr.alloc (Obj.cells #[.int .i64 (f : Int), .int .i64 (t : Int), .int .i64 lcap] 50)).drew.cell? ⟨wr.heap.size, 2, none⟩ = some (.int .i64 lcap) := p2
            have cf : (wr.alloc (Obj.cells #[.int .i64 (f : Int), .int .i64 (t : Int), .int .i64 lcap] 50)).drew.cell? ⟨lb, f, none⟩ = some (.int .i64 (av : Int)) := cf
            have ct : (wr.alloc (Obj.cells #[.int .i64 (f : Int), .int .i64 (t : Int), .int .i64 lcap] 50)).drew.cell? ⟨lb, t, none⟩ = some (.int .i64 (bv : Int)) := ct
            have HBX' := hid HBX'.out.drew
            have bWX := bWX.drew
            clear bX q0 q1 q2
            generalize hV : (wr.alloc (Obj.cells #[.int .i64 (f : Int), .int .i64 (t : Int), .int .i64 lcap] 50)).drew = V at *
            clear hV
            generalize hgq : wr.heap.size = gq at *
            clear hgq
            by_cases hcap : 0 < lcap
            · have hcap' : decide (0 < lcap) = true := decide_eq_true hcap
              by_cases hab : av = bv
              · have hab' : ((av : Int) == (bv : Int)) = true := by simp [hab]
                have hab'' : ((av : Int) != (bv : Int)) = false := by simp [hab]
                have HC1 := hid (HCS.out (fun _ => by rw [HAV.out, HBV.out, hab]))
                clear HCS hab
                go_wp2_with fail
                go_roundw
                case rel => exact ⟨k + 1, by omega, by go_num, HC1, HBX', bWX⟩
                case measure => simp [intOf]; omega
              · have habI : ¬ (av : Int) = (bv : Int) := by omega
                have hab' : ((av : Int) == (bv : Int)) = false := by simpa using habI
                have hab'' : ((av : Int) != (bv : Int)) = true := by simpa using habI
                have HRL := HI.out.len
                obtain ⟨mv, HMV⟩ : ∃ mv : Nat, Hid (min av bv = mv) := ⟨_, hid rfl⟩
                have hmn : min (av : Int) (bv : Int) = (mv : Int) := by rw [← HMV.out]; omega
                have hmw : IntKind.i64.wrap (mv : Int) = (mv : Int) := by
                  have h1 := HI.out.le f (by omega)
                  have h2 := HI.out.le t (by omega)
                  rw [HAV.out] at h1
                  rw [HBV.out] at h2
                  rw [← HMV.out]
                  rw [IntKind.wrap_i64]
                  omega
                have ff := HBX'.out.free f
                have ft := HBX'.out.free t
                have HBY := HBX'.out.set f mv
                have cf2 := HBY.cell f (by simp; omega)
                have ct2 := HBY.cell t (by simp; omega)
                have ft2 := HBY.free t
                have hat : at' (R.set f mv) t = bv := by rw [at_set, if_neg (fun h => hft h.1)]; exact HBV.out
                rw [hat] at ct2
                have hgl : (⟨gq, 0, none⟩ : Addr).block ≠ lb := by show gq ≠ lb; omega
                have p0s : (V.setCell ⟨lb, f, none⟩ (.int .i64 (mv : Int))).cell? ⟨gq, 0, none⟩ = some (.int .i64 (f : Int)) := by rw [cell_set_ne _ rfl rfl (by omega)]; exact p0
                have p1s : (V.setCell ⟨lb, f, none⟩ (.int .i64 (mv : Int))).cell? ⟨gq, 1, none⟩ = some (.int .i64 (t : Int)) := by rw [cell_set_ne _ rfl rfl (by omega)]; exact p1
                have HBY' := hid HBY
                have HNS := hid (join_sinks (S := S) (n := n) (R := R) HFIT.out HRL HMEM.out (by simp only [Int.toNat_natCast]; rw [HAV.out, HBV.out]; exact hab))
                have hJ : joinL R ⟨(f : Int), (t : Int), lcap⟩ = (R.set f mv).set t mv := by
                  unfold joinL
                  simp only [Int.toNat_natCast]
                  rw [HAV.out, HBV.out, HMV.out]
                rw [hJ] at HNS
                have NB := ((HBX'.out.set f mv).set t mv).drew
                have NI := join_isl HFIT.out HI.out HMEM.out hcap
                rw [hJ] at NI
                have NW := ((bWX.setCell (p := ⟨lb, f, none⟩) (Nat.le_refl _) (.int .i64 (mv : Int))).setCell (p := ⟨lb, t, none⟩) (Nat.le_refl _) (.int .i64 (mv : Int))).drew
                have HNB := hid NB
                have HNI := hid NI
                have HNW := hid NW
                have hif : (if bv < av then (bv : Int) else (av : Int)) = (mv : Int) := by rw [← HMV.out]; split <;> omega
                have HIF := hid hif
                clear hab habI HBY cf2 hat hgl HCS hcap NB NI NW hJ hif
                go_wp2_with fail
                go_region
                rw [HIF.out]
                go_wp2_with fail
                go_step3
                exact ⟨rfl, lb, W1, _, frame_ex _ _ _ _ _ rfl rfl rfl rfl rfl rfl, HNB.out, HNI.out, HNW.out, hlb, B1, HL1.out, y2⟩
            · have hcap' : decide (0 < lcap) = false := decide_eq_false hcap
              have HC1 := hid (HCS.out (fun h => absurd h hcap))
              clear HCS hcap
              go_wp2_with fail
              go_roundw
              case rel => exact ⟨k + 1, by omega, by go_num, HC1, HBX', bWX⟩
              case measure => simp [intOf]; omega
          · have hkl : k = S.length := by omega
            have HC := hid (by have := HK.out; rw [hkl] at this; exact this.all)
            have b1 := B1.trans (bW.mono (by have := B1.size; omega))
            clear hkl
            go_wp2_with fail
            simp only [Exit.jump]
            go_ret
            exact ⟨R, _, rfl, by have := HBR.out.ints (by have := HI.out.len; omega); rwa [HI.out.len] at this, HI.out, HC.out, b1⟩
  · rintro a' W2 ⟨lb, W1, R, ⟨u, rfl⟩, hB, hI, hWl, hlb, B1, hL1, y2⟩
    have HL1 := hid hL1
    have y2' := ikc (by rw [hlb]; exact hWl) y2
    clear hL1 HCH HB0 HX0 HL z0 z1 z2 z3 z4
    have HMU := hid (muB_is hB)
    have HB := hid hB
    have HI := hid hI
    have HWL := hid hWl
    clear hB hI hWl
    go_wp2_with fail
    go_loopw [28] (fun i wr => ∃ k : Nat, k ≤ S.length ∧ i = .int .i64 (k : Int) ∧ Hid (CloK S R k) ∧ Hid (Ib wr lb R) ∧ Below lb W1 wr) (fun i _ => S.length - (intOf i).toNat)
    case atStart => exact ⟨0, Nat.zero_le _, rfl, hid (fun i hi => absurd hi (Nat.not_lt_zero _)), HB, HWL.out⟩
    case round =>
      obtain ⟨k, hk, rfl, HK, HBR, bW⟩ := hrel
      have y2w := ikc (by rw [hlb]; exact bW) y2
      by_cases hlt : k < S.length
      · obtain ⟨b, off, c', e, _, _, q0, q1, q2⟩ := (HL1.out.below (by rw [hlb]; exact bW)).at k hlt
        simp only [Value.slice.injEq] at e
        obtain ⟨rfl, -, rfl⟩ := e
        have hli : (0 : Int) ≤ (k : Int) ∧ (k : Int) < (S.length : Int) := by omega
        have hin := HFIT.out _ (List.getElem_mem hlt)
        have HMEM := hid (List.getElem_mem hlt)
        have HCS := hid (fun e => HK.out.succ hlt e)
        generalize S[k] = l at *
        obtain ⟨lf, lt, lcap⟩ := l
        simp only at hin q0 q1 q2 HCS
        obtain ⟨f, rfl⟩ : ∃ f : Nat, lf = f := ⟨lf.toNat, by omega⟩
        obtain ⟨t, rfl⟩ : ∃ t : Nat, lt = t := ⟨lt.toNat, by omega⟩
        simp only [Int.toNat_natCast] at HCS
        have bX := ibel wr (Obj.cells #[.int .i64 (f : Int), .int .i64 (t : Int), .int .i64 lcap] 50)
        have x1 := inew wr (Obj.cells #[.int .i64 (f : Int), .int .i64 (t : Int), .int .i64 lcap] 50)
        have p0 := ibx x1 0 _ rfl
        have p1 := ibx x1 1 _ rfl
        have p2 := ibx x1 2 _ rfl
        have HBX := HBR.out.below bX
        have hfi : (0 : Int) ≤ (f : Int) ∧ (f : Int) < (n : Int) := by omega
        have hti : (0 : Int) ≤ (t : Int) ∧ (t : Int) < (n : Int) := by omega
        have hRn := HI.out.len
        have cf := HBX.cell f (by omega)
        have ct := HBX.cell t (by omega)
        have bWX := bW.trans (bX.mono (by have := bW.size; omega))
        have HBX' := hid HBX
        have hlf : lb < wr.heap.size := lt_of_block HBR.out
        have hft : f ≠ t := by omega
        clear HK HBR x1 HBX hRn
        obtain ⟨av, HAV⟩ : ∃ av, Hid (at' R f = av) := ⟨_, hid rfl⟩
        obtain ⟨bv, HBV⟩ : ∃ bv, Hid (at' R t = bv) := ⟨_, hid rfl⟩
        rw [HAV.out] at cf
        rw [HBV.out] at ct
        go_wp2_with fail
        go_region
        have p0 : (wr.alloc (Obj.cells #[.int .i64 (f : Int), .int .i64 (t : Int), .int .i64 lcap] 50)).drew.cell? ⟨wr.heap.size, 0, none⟩ = some (.int .i64 (f : Int)) := p0
        have p1 : (wr.alloc (Obj.cells #[.int .i64 (f : Int), .int .i64 (t : Int), .int .i64 lcap] 50)).drew.cell? ⟨wr.heap.size, 1, none⟩ = some (.int .i64 (t : Int)) := p1
        have p2 : (wr.alloc (Obj.cells #[.int .i64 (f : Int), .int .i64 (t : Int), .int .i64 lcap] 50)).drew.cell? ⟨wr.heap.size, 2, none⟩ = some (.int .i64 lcap) := p2
        have cf : (wr.alloc (Obj.cells #[.int .i64 (f : Int), .int .i64 (t : Int), .int .i64 lcap] 50)).drew.cell? ⟨lb, f, none⟩ = some (.int .i64 (av : Int)) := cf
        have ct : (wr.alloc (Obj.cells #[.int .i64 (f : Int), .int .i64 (t : Int), .int .i64 lcap] 50)).drew.cell? ⟨lb, t, none⟩ = some (.int .i64 (bv : Int)) := ct
        have HBX' := hid HBX'.out.drew
        have bWX := bWX.drew
        clear bX q0 q1 q2
        generalize hV : (wr.alloc (Obj.cells #[.int .i64 (f : Int), .int .i64 (t : Int), .int .i64 lcap] 50)).drew = V at *
        clear hV
        generalize hgq : wr.heap.size = gq at *
        clear hgq
        by_cases hcap : 0 < lcap
        · have hcap' : decide (0 < lcap) = true := decide_eq_true hcap
          by_cases hab : av = bv
          · have hab' : ((av : Int) == (bv : Int)) = true := by simp [hab]
            have hab'' : ((av : Int) != (bv : Int)) = false := by simp [hab]
            have HC1 := hid (HCS.out (fun _ => by rw [HAV.out, HBV.out, hab]))
            clear HCS hab
            go_wp2_with fail
            go_roundw
            case rel => exact ⟨k + 1, by omega, by go_num, HC1, HBX', bWX⟩
            case measure => simp [intOf]; omega
          · have habI : ¬ (av : Int) = (bv : Int) := by omega
            have hab' : ((av : Int) == (bv : Int)) = false := by simpa using habI
            have hab'' : ((av : Int) != (bv : Int)) = true := by simpa using habI
            have HRL := HI.out.len
            obtain ⟨mv, HMV⟩ : ∃ mv : Nat, Hid (min av bv = mv) := ⟨_, hid rfl⟩
            have hmn : min (av : Int) (bv : Int) = (mv : Int) := by rw [← HMV.out]; omega
            have hmw : IntKind.i64.wrap (mv : Int) = (mv : Int) := by
              have h1 := HI.out.le f (by omega)
              have h2 := HI.out.le t (by omega)
              rw [HAV.out] at h1
              rw [HBV.out] at h2
              rw [← HMV.out]
              rw [IntKind.wrap_i64]
              omega
            have ff := HBX'.out.free f
            have ft := HBX'.out.free t
            have HBY := HBX'.out.set f mv
            have cf2 := HBY.cell f (by simp; omega)
            have ct2 := HBY.cell t (by simp; omega)
            have ft2 := HBY.free t
            have hat : at' (R.set f mv) t = bv := by rw [at_set, if_neg (fun h => hft h.1)]; exact HBV.out
            rw [hat] at ct2
            have hgl : (⟨gq, 0, none⟩ : Addr).block ≠ lb := by show gq ≠ lb; omega
            have p0s : (V.setCell ⟨lb, f, none⟩ (.int .i64 (mv : Int))).cell? ⟨gq, 0, none⟩ = some (.int .i64 (f : Int)) := by rw [cell_set_ne _ rfl rfl (by omega)]; exact p0
            have p1s : (V.setCell ⟨lb, f, none⟩ (.int .i64 (mv : Int))).cell? ⟨gq, 1, none⟩ = some (.int .i64 (t : Int)) := by rw [cell_set_ne _ rfl rfl (by omega)]; exact p1
            have HBY' := hid HBY
            have HNS := hid (join_sinks (S := S) (n := n) (R := R) HFIT.out HRL HMEM.out (by simp only [Int.toNat_natCast]; rw [HAV.out, HBV.out]; exact hab))
            have hJ : joinL R ⟨(f : Int), (t : Int), lcap⟩ = (R.set f mv).set t mv := by
              unfold joinL
              simp only [Int.toNat_natCast]
              rw [HAV.out, HBV.out, HMV.out]
            rw [hJ] at HNS
            have NB := ((HBX'.out.set f mv).set t mv).drew
            have NI := join_isl HFIT.out HI.out HMEM.out hcap
            rw [hJ] at NI
            have NW := ((bWX.setCell (p := ⟨lb, f, none⟩) (Nat.le_refl _) (.int .i64 (mv : Int))).setCell (p := ⟨lb, t, none⟩) (Nat.le_refl _) (.int .i64 (mv : Int))).drew
            have HNB := hid NB
            have HNI := hid NI
            have HNW := hid NW
            have hif : (if bv < av then (bv : Int) else (av : Int)) = (mv : Int) := by rw [← HMV.out]; split <;> omega
            have HIF := hid hif
            clear hab habI HBY cf2 hat hgl HCS hcap NB NI NW hJ hif
            go_wp2_with fail
            go_region
            rw [HIF.out]
            go_wp2_with fail
            go_step3
            exact ⟨rfl, ⟨lb, W1, _, frame_ex _ _ _ _ _ rfl rfl rfl rfl rfl rfl, HNB.out, HNI.out, HNW.out, hlb, B1, HL1.out, y2⟩, (by show muB lb _ < muB lb _; rw [muB_is HNB.out, HMU.out]; exact HNS.out)⟩
        · have hcap' : decide (0 < lcap) = false := decide_eq_false hcap
          have HC1 := hid (HCS.out (fun h => absurd h hcap))
          clear HCS hcap
          go_wp2_with fail
          go_roundw
          case rel => exact ⟨k + 1, by omega, by go_num, HC1, HBX', bWX⟩
          case measure => simp [intOf]; omega
      · have hkl : k = S.length := by omega
        have HC := hid (by have := HK.out; rw [hkl] at this; exact this.all)
        have b1 := B1.trans (bW.mono (by have := B1.size; omega))
        clear hkl
        go_wp2_with fail
        simp only [Exit.jump]
        go_ret
        exact ⟨R, _, rfl, by have := HBR.out.ints (by have := HI.out.len; omega); rwa [HI.out.len] at this, HI.out, HC.out, b1⟩
end Go.Proofs.YtmoailbilnkfnaaGreatDoor
